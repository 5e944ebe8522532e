/-
  Package trace: Step.
-/
import Derived.Test.YtccjelpfmkbmiaaGreatDoorXTrField
namespace Go.Proofs.YtccjelpfmkbmiaaGreatDoor.Tr
open Go.Proofs.YtccjelpfmkbmiaaGreatDoor Go.Proofs.YtccjelpfmkbmiaaGreatDoor.Rt
open Go.RowKit
open Go.Proofs.YtccjelpfmkbmiaaGreatDoor.Mu (hv kv w_load w_store w_loadg ldHb ldKb stHb stKb st_int ld_int p_load p_store ev region_plan noHs0 noK0)
set_option maxRecDepth 100000

/-- What Step leaves: all in new memory. -/
def SOut (w : World) (n : Q2) (R : R3) (e : Ending) (w' : World) : Prop :=
  ∃ m : Q2, e = .returned (.tuple #[(.agg #[.slice m.s.w.a m.s.w.n m.s.w.c, .slice m.s.p.a m.s.p.n m.s.p.c, .slice (m.s.u 0).a (m.s.u 0).n (m.s.u 0).c, .slice (m.s.u 1).a (m.s.u 1).n (m.s.u 1).c, .slice (m.s.u 2).a (m.s.u 2).n (m.s.u 2).c, .slice m.s.c.a m.s.c.n m.s.c.c]), (.agg #[.int .i64 m.k.ph, .int .i64 m.k.ep, .bool m.k.mj, .slice m.k.wk.a m.k.wk.n m.k.wk.c, .bool m.k.ov, .int .i64 m.k.pa, .int .i64 m.k.pf, .int .i64 m.k.ps, .int .i64 m.k.pc, .bool m.k.me])]) ∧ Lens n.s m.s ∧ m.d = R.d ∧ m.xs = R.xs ∧ m.k = Sh.kw R.k m.k.wk R.k.ov ∧ Hold w' m ∧ NewQ w.heap.size m ∧ Below w.heap.size w w'
section
variable {s t : Hs} {d : Hd_} {k : Sh.Ks} {xs : List Int} {v : Ls.Sl} {w w' : World} {n m m2 : Q2}
theorem nxt_lens (hl : Lens s t) (d : Hd_) (a : Int) : nxt t d a = nxt s d a := by
  unfold nxt
  rw [hl.2.1]
theorem fld_lens (hl : Lens s t) (d : Hd_) (k : Sh.Ks) (v : Ls.Sl) : fldN t d (Sh.kw k v k.ov) = fldN s d k := by
  unfold fldN
  rw [Sh.same_col hl]
  rfl
theorem may_lens (hl : Lens s t) (d : Hd_) : mayB0 t d = mayB0 s d := (Sh.kin_same (d := d) hl).may
/-- .. as of a collector whose list lies elsewhere, a heap that lies elsewhere. -/
theorem field_sim (hl : Lens s t) : fieldR t d (Sh.kw k v k.ov) xs = ⟨(fieldR s d k xs).d, Sh.kw (fieldR s d k xs).k v (fieldR s d k xs).k.ov, (fieldR s d k xs).xs⟩ := by
  have e1 := fld_lens hl d k v
  have e2 : fldV d (Sh.kw k v k.ov) = fldV d k := rfl
  have e3 : white t d (Sh.kw k v k.ov) (fldV d k) = white s d k (fldV d k) := Sh.same_col hl _ _
  have e4 := sh_lens hl d k.mj k.ep (fldV d k)
  have e5 := bl_lens hl (Sh.shD s d k.mj k.ep (fldV d k)) k.mj k.ep k.pa
  unfold fieldR
  rw [e1, e2, e3]
  show (if k.pf < 0 ∨ fldN s d k ≤ k.pf then _ else if k.pf + 1 = fldN s d k then (⟨Sh.blD t (Sh.shD t d k.mj k.ep (fldV d k)) k.mj k.ep k.pa, _, _⟩ : R3) else ⟨Sh.shD t d k.mj k.ep (fldV d k), _, _⟩) = _
  rw [e4, e5]
  split
  · rfl
  · split <;> rfl
theorem seek_sim (hl : Lens s t) : seekR t d (Sh.kw k v k.ov) xs = ⟨(seekR s d k xs).d, Sh.kw (seekR s d k xs).k v (seekR s d k xs).k.ov, (seekR s d k xs).xs⟩ := by
  unfold seekR
  show (if Sh.isC t d k.mj k.ep (nxt t d k.ps) 2 = true then (⟨d, kp (kq (Sh.kw k v k.ov) (nxt t d k.ps)) (nxt t d k.ps) 0, xs⟩ : R3) else ⟨d, kq (Sh.kw k v k.ov) (nxt t d k.ps), xs⟩) = _
  rw [nxt_lens hl, Sh.same_col hl]
  split <;> rfl
theorem step_sim (hl : Lens s t) : stepR t d (Sh.kw k v k.ov) xs = ⟨(stepR s d k xs).d, Sh.kw (stepR s d k xs).k v (stepR s d k xs).k.ov, (stepR s d k xs).xs⟩ := by
  unfold stepR
  rw [may_lens hl]
  show (if mayB0 s d = true ∧ k.ph = 5 then onR t d (Sh.kw k v k.ov) xs else (⟨d, Sh.kw k v k.ov, xs⟩ : R3)) = _
  split
  · unfold onR
    rw [field_sim hl, seek_sim hl]
    show (if wh k xs = 0 then _ else if wh k xs = 1 then _ else if wh k xs = 2 then _ else if wh k xs = 3 then _ else _) = _
    split
    · rfl
    · split
      · rfl
      · split
        · rfl
        · split <;> rfl
  · rfl
/-- The copies' step is the step. -/
theorem st_of (hl : Lens n.s m.s) (hd : m.d = n.d) (hx : m.xs = n.xs) (hk : m.k = Sh.kw n.k m.k.wk n.k.ov) (hl2 : Lens m.s m2.s) (h1 : m2.d = (stepR m.s m.d m.k m.xs).d) (h2 : m2.xs = (stepR m.s m.d m.k m.xs).xs) (h3 : m2.k = Sh.kw (stepR m.s m.d m.k m.xs).k m2.k.wk (stepR m.s m.d m.k m.xs).k.ov) :
    Lens n.s m2.s ∧ m2.d = (stepR n.s n.d n.k n.xs).d ∧ m2.xs = (stepR n.s n.d n.k n.xs).xs ∧ m2.k = Sh.kw (stepR n.s n.d n.k n.xs).k m2.k.wk (stepR n.s n.d n.k n.xs).k.ov := by
  have e := step_sim (d := n.d) (k := n.k) (xs := n.xs) (v := m.k.wk) hl
  rw [← hk, ← hd, ← hx] at e
  rw [hd, hx] at e
  rw [hd, hx, e] at h1 h2 h3
  exact ⟨lens_trans' hl hl2, h1, h2, h3⟩
theorem seek_wk (s : Hs) (d : Hd_) (k : Sh.Ks) (xs : List Int) : (seekR s d k xs).k.wk = k.wk := by unfold seekR; split <;> rfl
theorem seek_xs (s : Hs) (d : Hd_) (k : Sh.Ks) (xs : List Int) : (seekR s d k xs).xs = xs ∧ (seekR s d k xs).d = d := by unfold seekR; split <;> exact ⟨rfl, rfl⟩
theorem step_no (h : ¬ (mayB0 s d = true ∧ k.ph = 5)) : stepR s d k xs = ⟨d, k, xs⟩ := if_neg h
theorem step_on (h : mayB0 s d = true ∧ k.ph = 5) : stepR s d k xs = onR s d k xs := if_pos h
theorem fine_lens (hl : Lens s t) (h : Fine s d) : Fine t d := (Sh.kin_same hl).fine h
end
structure In (w : World) (n : Q2) : Prop where
  hold : Hold w n
  sz : Cl.Sz w
  fine : Fine n.s n.d
  x : n.xs.length ≤ 999000
set_option maxHeartbeats 4000000 in
theorem step_any (n : Q2) (w : World) (h : In w n) : Calls Tryz.prog 27 #[(.agg #[.slice n.s.w.a n.s.w.n n.s.w.c, .slice n.s.p.a n.s.p.n n.s.p.c, .slice (n.s.u 0).a (n.s.u 0).n (n.s.u 0).c, .slice (n.s.u 1).a (n.s.u 1).n (n.s.u 1).c, .slice (n.s.u 2).a (n.s.u 2).n (n.s.u 2).c, .slice n.s.c.a n.s.c.n n.s.c.c]), (.agg #[.int .i64 n.k.ph, .int .i64 n.k.ep, .bool n.k.mj, .slice n.k.wk.a n.k.wk.n n.k.wk.c, .bool n.k.ov, .int .i64 n.k.pa, .int .i64 n.k.pf, .int .i64 n.k.ps, .int .i64 n.k.pc, .bool n.k.me])] w (SOut w n (stepR n.s n.d n.k n.xs)) := by
  have HI := Lib.hid h
  clear h
  go_enter Tryz.func27, Tryz.ntmps27
  go_upto_region 1 with fail
  obtain ⟨W1, hW1⟩ : ∃ W1, W1 = ((((w.alloc (.cells #[.slice n.s.w.a n.s.w.n n.s.w.c, .slice n.s.p.a n.s.p.n n.s.p.c, .slice (n.s.u 0).a (n.s.u 0).n (n.s.u 0).c, .slice (n.s.u 1).a (n.s.u 1).n (n.s.u 1).c, .slice (n.s.u 2).a (n.s.u 2).n (n.s.u 2).c, .slice n.s.c.a n.s.c.n n.s.c.c] 28)).alloc (.cells #[.int .i64 n.k.ph, .int .i64 n.k.ep, .bool n.k.mj, .slice n.k.wk.a n.k.wk.n n.k.wk.c, .bool n.k.ov, .int .i64 n.k.pa, .int .i64 n.k.pf, .int .i64 n.k.ps, .int .i64 n.k.pc, .bool n.k.me] 30)).alloc (.cells #[.slice none 0 0, .slice none 0 0, .slice none 0 0, .slice none 0 0, .slice none 0 0, .slice none 0 0] 28)).alloc (.cells #[.int .i64 0, .int .i64 0, .bool false, .slice none 0 0, .bool false, .int .i64 0, .int .i64 0, .int .i64 0, .int .i64 0, .bool false] 30)) := ⟨_, rfl⟩
  have S1 : Hid (Wn 4 w W1 (p4 w.heap.size (w.heap.size + 1) (w.heap.size + 2) (w.heap.size + 3)) (c4 (hv n.s) (kv n.k) (hv noHs0) (kv noK0)) []) := Lib.hid (by
    rw [hW1]
    exact wn_of (c := (c4 (hv n.s) (kv n.k) (hv noHs0) (kv noK0))) (((((lay_none w).add (hv n.s) 28).add (kv n.k) 30).add (hv noHs0) 28).add (kv noK0) 30) (by decide) (all4 ⟨rfl, rfl, rfl, rfl⟩))
  rw [← hW1]
  clear hW1
  have S1' := S1
  refine Sh.region_gen fun a0 ha0 => ?_
  have G0 : a0.tmps[0]? = some ((.agg #[.slice n.s.w.a n.s.w.n n.s.w.c, .slice n.s.p.a n.s.p.n n.s.p.c, .slice (n.s.u 0).a (n.s.u 0).n (n.s.u 0).c, .slice (n.s.u 1).a (n.s.u 1).n (n.s.u 1).c, .slice (n.s.u 2).a (n.s.u 2).n (n.s.u 2).c, .slice n.s.c.a n.s.c.n n.s.c.c])) := by rw [ha0]; rfl
  have G1 : a0.tmps[1]? = some ((.agg #[.int .i64 n.k.ph, .int .i64 n.k.ep, .bool n.k.mj, .slice n.k.wk.a n.k.wk.n n.k.wk.c, .bool n.k.ov, .int .i64 n.k.pa, .int .i64 n.k.pf, .int .i64 n.k.ps, .int .i64 n.k.pc, .bool n.k.me])) := by rw [ha0]; rfl
  have G2 : a0.tmps[2]? = some (.pointer (some ⟨w.heap.size, 0, none⟩)) := by rw [ha0]; rfl
  have G3 : a0.tmps[3]? = some (.pointer (some ⟨w.heap.size + 1, 0, none⟩)) := by rw [ha0]; rfl
  have G4 : a0.tmps[4]? = some (.pointer (some ⟨w.heap.size + 2, 0, none⟩)) := by rw [ha0]; rfl
  have G5 : a0.tmps[5]? = some (.pointer (some ⟨w.heap.size + 3, 0, none⟩)) := by rw [ha0]; rfl
  have G10 : a0.tmps[10]? = some undef := by rw [ha0]; rfl
  have G11 : a0.tmps[11]? = some undef := by rw [ha0]; rfl
  have G12 : a0.tmps[12]? = some undef := by rw [ha0]; rfl
  have G13 : a0.tmps[13]? = some undef := by rw [ha0]; rfl
  have G14 : a0.tmps[14]? = some undef := by rw [ha0]; rfl
  have G15 : a0.tmps[15]? = some undef := by rw [ha0]; rfl
  have G16 : a0.tmps[16]? = some undef := by rw [ha0]; rfl
  have G17 : a0.tmps[17]? = some undef := by rw [ha0]; rfl
  have G18 : a0.tmps[18]? = some undef := by rw [ha0]; rfl
  have G19 : a0.tmps[19]? = some undef := by rw [ha0]; rfl
  have G20 : a0.tmps[20]? = some undef := by rw [ha0]; rfl
  have G21 : a0.tmps[21]? = some undef := by rw [ha0]; rfl
  have G22 : a0.tmps[22]? = some undef := by rw [ha0]; rfl
  have G23 : a0.tmps[23]? = some undef := by rw [ha0]; rfl
  have G24 : a0.tmps[24]? = some undef := by rw [ha0]; rfl
  have G25 : a0.tmps[25]? = some undef := by rw [ha0]; rfl
  have G26 : a0.tmps[26]? = some undef := by rw [ha0]; rfl
  have G27 : a0.tmps[27]? = some undef := by rw [ha0]; rfl
  have G28 : a0.tmps[28]? = some undef := by rw [ha0]; rfl
  have G29 : a0.tmps[29]? = some undef := by rw [ha0]; rfl
  have G30 : a0.tmps[30]? = some undef := by rw [ha0]; rfl
  have G31 : a0.tmps[31]? = some undef := by rw [ha0]; rfl
  have G32 : a0.tmps[32]? = some undef := by rw [ha0]; rfl
  have G33 : a0.tmps[33]? = some undef := by rw [ha0]; rfl
  have G34 : a0.tmps[34]? = some undef := by rw [ha0]; rfl
  have G35 : a0.tmps[35]? = some undef := by rw [ha0]; rfl
  have G36 : a0.tmps[36]? = some undef := by rw [ha0]; rfl
  have G37 : a0.tmps[37]? = some undef := by rw [ha0]; rfl
  have G38 : a0.tmps[38]? = some undef := by rw [ha0]; rfl
  have G39 : a0.tmps[39]? = some undef := by rw [ha0]; rfl
  have G40 : a0.tmps[40]? = some undef := by rw [ha0]; rfl
  have G41 : a0.tmps[41]? = some undef := by rw [ha0]; rfl
  have G42 : a0.tmps[42]? = some undef := by rw [ha0]; rfl
  have G43 : a0.tmps[43]? = some undef := by rw [ha0]; rfl
  have G44 : a0.tmps[44]? = some undef := by rw [ha0]; rfl
  have G45 : a0.tmps[45]? = some undef := by rw [ha0]; rfl
  have G46 : a0.tmps[46]? = some undef := by rw [ha0]; rfl
  have G47 : a0.tmps[47]? = some undef := by rw [ha0]; rfl
  have G48 : a0.tmps[48]? = some undef := by rw [ha0]; rfl
  have TD : a0.defers = [] := congrArg Act.defers ha0
  have TZ : a0.tmps.size = 49 := by rw [ha0]; rfl
  clear ha0
  refine region_plan (by kernel_rfl) (by kernel_rfl) (by rw [TZ]; kernel_rfl) (fun (x : Gx) (i : Nat) => (match i with | 0 => (.agg #[.slice n.s.w.a n.s.w.n n.s.w.c, .slice n.s.p.a n.s.p.n n.s.p.c, .slice (n.s.u 0).a (n.s.u 0).n (n.s.u 0).c, .slice (n.s.u 1).a (n.s.u 1).n (n.s.u 1).c, .slice (n.s.u 2).a (n.s.u 2).n (n.s.u 2).c, .slice n.s.c.a n.s.c.n n.s.c.c]) | 1 => (.agg #[.slice x.s.w.a x.s.w.n x.s.w.c, .slice x.s.p.a x.s.p.n x.s.p.c, .slice (x.s.u 0).a (x.s.u 0).n (x.s.u 0).c, .slice (x.s.u 1).a (x.s.u 1).n (x.s.u 1).c, .slice (x.s.u 2).a (x.s.u 2).n (x.s.u 2).c, .slice x.s.c.a x.s.c.n x.s.c.c]) | 2 => (.agg #[.int .i64 n.k.ph, .int .i64 n.k.ep, .bool n.k.mj, .slice n.k.wk.a n.k.wk.n n.k.wk.c, .bool n.k.ov, .int .i64 n.k.pa, .int .i64 n.k.pf, .int .i64 n.k.ps, .int .i64 n.k.pc, .bool n.k.me]) | 3 => (.agg #[.int .i64 n.k.ph, .int .i64 n.k.ep, .bool n.k.mj, .slice x.v.a x.v.n x.v.c, .bool n.k.ov, .int .i64 n.k.pa, .int .i64 n.k.pf, .int .i64 n.k.ps, .int .i64 n.k.pc, .bool n.k.me]) | _ => undef : Value)) (J6 w n) ⟨noHs0, ⟨none, 0, 0⟩⟩ ?start ?step ?done
  case start => exact j6_start (S1.out.next (W' := W1.drew) ⟨rfl, rfl, rfl, Nat.le_refl _, fun _ _ => rfl⟩) _
  case step =>
    rintro i o9 l a9 x W9 ho hP hI hl haft K hK
    have hi : i < 6 := (Array.getElem?_eq_some_iff.1 ho).1
    have hz9 := hI.size
    rcases (show i = 0 ∨ i = 1 ∨ i = 2 ∨ i = 3 ∨ i = 4 ∨ i = 5 by omega) with rfl | rfl | rfl | rfl | rfl | rfl
    · obtain rfl := Option.some.inj ho
      have e9 : l 4 = false := nt fun e => by
        have h1 := hI.k4 e
        have h0 := hI.k1 h1
        rw [h0] at hl; cases hl
      have hst := hI.st.box 0 (by decide)
      have hst : Box W9 (w.heap.size) (hv n.s) := by have := hst; simp only [p4, c4, e9] at this; exact this
      have q2 := (hP.keep (j := 2) (by kernel_rfl)).trans G2
      exact p_load rfl (ev q2) (ldHb hst) (hK x _ (fun _ _ => rfl) (hI.pure (i := 0) (by decide)))
    · obtain rfl := Option.some.inj ho
      have h0 := haft ⟨0, .data⟩ (by simp) rfl
      have e0 := hP.got 0 _ 6 rfl h0 rfl
      try dsimp only at e0
      go_simp
      refine (fresh_all n.s n.d W9 (HI.out.hold.h.next hI.st.bel) HI.out.fine).mono ?_
      rintro e9 w9 ⟨s', rfl, hp9, hL9, hn9, hb9⟩
      refine hK ⟨s', x.v⟩ _ ?_ ((hI.next hb9).set1 hl h0 hp9 hL9 (news_le hn9 hz9))
      intro j hj
      match j, hj with
      | 0, hj => rfl
      | 1, hj => rw [hl] at hj; cases hj
      | 2, hj => rfl
      | 3, hj => rfl
      | 4, hj => rfl
      | 5, hj => rfl
      | j + 6, _ => rfl
    · obtain rfl := Option.some.inj ho
      have e9 : l 5 = false := nt fun e => by
        have h1 := hI.k5 e
        have h0 := hI.k3 h1
        rw [h0] at hl; cases hl
      have hst := hI.st.box 1 (by decide)
      have hst : Box W9 (w.heap.size + 1) (kv n.k) := by have := hst; simp only [p4, c4, e9] at this; exact this
      have q3 := (hP.keep (j := 3) (by kernel_rfl)).trans G3
      exact p_load rfl (ev q3) (ldKb hst) (hK x _ (fun _ _ => rfl) (hI.pure (i := 2) (by decide)))
    · obtain rfl := Option.some.inj ho
      have h0 := haft ⟨2, .data⟩ (by simp) rfl
      have e2 := hP.got 2 _ 8 rfl h0 rfl
      try dsimp only at e2
      go_simp
      refine (Sh.fcol_any n.k n.xs W9 (HI.out.hold.c.next hI.st.bel) (by have := HI.out.x; omega)).mono ?_
      rintro e9 w9 ⟨v', rfl, ha9⟩
      refine hK ⟨x.s, v'⟩ _ ?_ ((hI.next ha9.bel).set3 hl h0 ⟨Mu.all_row9 ha9.own, fun h0 y hy => Nat.le_trans hz9 (own_lie ha9 h0 y hy), own_cap ha9⟩)
      intro j hj
      match j, hj with
      | 0, hj => rfl
      | 1, hj => rfl
      | 2, hj => rfl
      | 3, hj => rw [hl] at hj; cases hj
      | 4, hj => rfl
      | 5, hj => rfl
      | j + 6, _ => rfl
    · obtain rfl := Option.some.inj ho
      have h1 := haft ⟨1, .data⟩ (by simp) rfl
      have e9 := hP.got 1 _ 7 rfl h1 rfl
      try dsimp only at e9
      have q2 := (hP.keep (j := 2) (by kernel_rfl)).trans G2
      exact p_store rfl (ev q2) (ev e9) (stHb (show Box W9 (w.heap.size) _ from hI.st.box 0 (by decide)) sel_h x.s) (hK x _ (fun _ _ => rfl) (hI.putH h1))
    · obtain rfl := Option.some.inj ho
      have h1 := haft ⟨3, .data⟩ (by simp) rfl
      have e9 := hP.got 3 _ 9 rfl h1 rfl
      try dsimp only at e9
      have q3 := (hP.keep (j := 3) (by kernel_rfl)).trans G3
      exact p_store rfl (ev q3) (ev e9) (stKb (show Box W9 (w.heap.size + 1) _ from hI.st.box 1 (by decide)) sel_k (Sh.kw n.k x.v n.k.ov)) (hK x _ (fun _ _ => rfl) (hI.putK h1))
  case done =>
    rintro l a9 x W9 hP hI hall
    have ea : a9 = { tmps := #[(.agg #[.slice n.s.w.a n.s.w.n n.s.w.c, .slice n.s.p.a n.s.p.n n.s.p.c, .slice (n.s.u 0).a (n.s.u 0).n (n.s.u 0).c, .slice (n.s.u 1).a (n.s.u 1).n (n.s.u 1).c, .slice (n.s.u 2).a (n.s.u 2).n (n.s.u 2).c, .slice n.s.c.a n.s.c.n n.s.c.c]), (.agg #[.int .i64 n.k.ph, .int .i64 n.k.ep, .bool n.k.mj, .slice n.k.wk.a n.k.wk.n n.k.wk.c, .bool n.k.ov, .int .i64 n.k.pa, .int .i64 n.k.pf, .int .i64 n.k.ps, .int .i64 n.k.pc, .bool n.k.me]), .pointer (some ⟨w.heap.size, 0, none⟩), .pointer (some ⟨w.heap.size + 1, 0, none⟩), .pointer (some ⟨w.heap.size + 2, 0, none⟩), .pointer (some ⟨w.heap.size + 3, 0, none⟩), (.agg #[.slice n.s.w.a n.s.w.n n.s.w.c, .slice n.s.p.a n.s.p.n n.s.p.c, .slice (n.s.u 0).a (n.s.u 0).n (n.s.u 0).c, .slice (n.s.u 1).a (n.s.u 1).n (n.s.u 1).c, .slice (n.s.u 2).a (n.s.u 2).n (n.s.u 2).c, .slice n.s.c.a n.s.c.n n.s.c.c]), (.agg #[.slice x.s.w.a x.s.w.n x.s.w.c, .slice x.s.p.a x.s.p.n x.s.p.c, .slice (x.s.u 0).a (x.s.u 0).n (x.s.u 0).c, .slice (x.s.u 1).a (x.s.u 1).n (x.s.u 1).c, .slice (x.s.u 2).a (x.s.u 2).n (x.s.u 2).c, .slice x.s.c.a x.s.c.n x.s.c.c]), (.agg #[.int .i64 n.k.ph, .int .i64 n.k.ep, .bool n.k.mj, .slice n.k.wk.a n.k.wk.n n.k.wk.c, .bool n.k.ov, .int .i64 n.k.pa, .int .i64 n.k.pf, .int .i64 n.k.ps, .int .i64 n.k.pc, .bool n.k.me]), (.agg #[.int .i64 n.k.ph, .int .i64 n.k.ep, .bool n.k.mj, .slice x.v.a x.v.n x.v.c, .bool n.k.ov, .int .i64 n.k.pa, .int .i64 n.k.pf, .int .i64 n.k.ps, .int .i64 n.k.pc, .bool n.k.me]), undef, undef, undef, undef, undef, undef, undef, undef, undef, undef, undef, undef, undef, undef, undef, undef, undef, undef, undef, undef, undef, undef, undef, undef, undef, undef, undef, undef, undef, undef, undef, undef, undef, undef, undef, undef, undef, undef, undef], defers := [] } := Sh.act_ext (hP.df.trans TD) fun j => by
      match j with
      | 0 => exact (hP.keep (j := 0) (by kernel_rfl)).trans G0
      | 1 => exact (hP.keep (j := 1) (by kernel_rfl)).trans G1
      | 2 => exact (hP.keep (j := 2) (by kernel_rfl)).trans G2
      | 3 => exact (hP.keep (j := 3) (by kernel_rfl)).trans G3
      | 4 => exact (hP.keep (j := 4) (by kernel_rfl)).trans G4
      | 5 => exact (hP.keep (j := 5) (by kernel_rfl)).trans G5
      | 6 => exact hP.got 0 _ 6 rfl (hall 0 (by decide)) rfl
      | 7 => exact hP.got 1 _ 7 rfl (hall 1 (by decide)) rfl
      | 8 => exact hP.got 2 _ 8 rfl (hall 2 (by decide)) rfl
      | 9 => exact hP.got 3 _ 9 rfl (hall 3 (by decide)) rfl
      | 10 => exact (hP.keep (j := 10) (by kernel_rfl)).trans G10
      | 11 => exact (hP.keep (j := 11) (by kernel_rfl)).trans G11
      | 12 => exact (hP.keep (j := 12) (by kernel_rfl)).trans G12
      | 13 => exact (hP.keep (j := 13) (by kernel_rfl)).trans G13
      | 14 => exact (hP.keep (j := 14) (by kernel_rfl)).trans G14
      | 15 => exact (hP.keep (j := 15) (by kernel_rfl)).trans G15
      | 16 => exact (hP.keep (j := 16) (by kernel_rfl)).trans G16
      | 17 => exact (hP.keep (j := 17) (by kernel_rfl)).trans G17
      | 18 => exact (hP.keep (j := 18) (by kernel_rfl)).trans G18
      | 19 => exact (hP.keep (j := 19) (by kernel_rfl)).trans G19
      | 20 => exact (hP.keep (j := 20) (by kernel_rfl)).trans G20
      | 21 => exact (hP.keep (j := 21) (by kernel_rfl)).trans G21
      | 22 => exact (hP.keep (j := 22) (by kernel_rfl)).trans G22
      | 23 => exact (hP.keep (j := 23) (by kernel_rfl)).trans G23
      | 24 => exact (hP.keep (j := 24) (by kernel_rfl)).trans G24
      | 25 => exact (hP.keep (j := 25) (by kernel_rfl)).trans G25
      | 26 => exact (hP.keep (j := 26) (by kernel_rfl)).trans G26
      | 27 => exact (hP.keep (j := 27) (by kernel_rfl)).trans G27
      | 28 => exact (hP.keep (j := 28) (by kernel_rfl)).trans G28
      | 29 => exact (hP.keep (j := 29) (by kernel_rfl)).trans G29
      | 30 => exact (hP.keep (j := 30) (by kernel_rfl)).trans G30
      | 31 => exact (hP.keep (j := 31) (by kernel_rfl)).trans G31
      | 32 => exact (hP.keep (j := 32) (by kernel_rfl)).trans G32
      | 33 => exact (hP.keep (j := 33) (by kernel_rfl)).trans G33
      | 34 => exact (hP.keep (j := 34) (by kernel_rfl)).trans G34
      | 35 => exact (hP.keep (j := 35) (by kernel_rfl)).trans G35
      | 36 => exact (hP.keep (j := 36) (by kernel_rfl)).trans G36
      | 37 => exact (hP.keep (j := 37) (by kernel_rfl)).trans G37
      | 38 => exact (hP.keep (j := 38) (by kernel_rfl)).trans G38
      | 39 => exact (hP.keep (j := 39) (by kernel_rfl)).trans G39
      | 40 => exact (hP.keep (j := 40) (by kernel_rfl)).trans G40
      | 41 => exact (hP.keep (j := 41) (by kernel_rfl)).trans G41
      | 42 => exact (hP.keep (j := 42) (by kernel_rfl)).trans G42
      | 43 => exact (hP.keep (j := 43) (by kernel_rfl)).trans G43
      | 44 => exact (hP.keep (j := 44) (by kernel_rfl)).trans G44
      | 45 => exact (hP.keep (j := 45) (by kernel_rfl)).trans G45
      | 46 => exact (hP.keep (j := 46) (by kernel_rfl)).trans G46
      | 47 => exact (hP.keep (j := 47) (by kernel_rfl)).trans G47
      | 48 => exact (hP.keep (j := 48) (by kernel_rfl)).trans G48
      | j + 49 => exact (Array.getElem?_eq_none (by rw [hP.sz, TZ]; omega)).trans (Array.getElem?_eq_none (show 49 ≤ j + 49 by omega)).symm
    subst ea
    have D2 := hI.done hall
    obtain ⟨m, hm⟩ : ∃ m, m = gQ n x := ⟨_, rfl⟩
    have MD : Hid (m.d = n.d ∧ m.xs = n.xs ∧ m.k = Sh.kw n.k m.k.wk n.k.ov ∧ Lens n.s m.s ∧ m.k.wk.n ≤ m.k.wk.c) := Lib.hid (by rw [hm]; exact ⟨rfl, rfl, rfl, D2.2.2.1, D2.2.2.2⟩)
    rw [← hm] at D2
    have S2 := Lib.hid D2.1
    have N2 := Lib.hid D2.2.1
    obtain ⟨x1, hx1⟩ : ∃ x1, x1 = x.s := ⟨_, rfl⟩
    obtain ⟨x2, hx2⟩ : ∃ x2, x2 = x.v := ⟨_, rfl⟩
    rw [← hx1, ← hx2]
    clear hP hI hall D2 hm hx1 hx2 TD TZ S1 S1' G0 G1 G2 G3 G4 G5 G10 G11 G12 G13 G14 G15 G16 G17 G18 G19 G20 G21 G22 G23 G24 G25 G26 G27 G28 G29 G30 G31 G32 G33 G34 G35 G36 G37 G38 G39 G40 G41 G42 G43 G44 G45 G46 G47 G48
    have FM := Lib.hid (fine_lens MD.out.2.2.2.1 HI.out.fine)
    have EX : Hid (m.xs.length ≤ 999000) := Lib.hid (by rw [MD.out.2.1]; exact HI.out.x)
    have C1 := Lib.hid (fun W (hW : Hold W m) (hz : Cl.Sz W) => pmay0_any m.s m.d W hW.h hz (by rw [MD.out.1]; exact FM.out))
    have OFF := Lib.hid (fun (z : Q2) (hz : NewQ (w.heap.size + 4) z) (i : Nat) (hi : i < 4) => hz.off (b := p4 w.heap.size (w.heap.size + 1) (w.heap.size + 2) (w.heap.size + 3) i) (by rw [p4_at i hi]; omega))
    cases hmy : mayB0 m.s m.d
    · rw [hmy] at C1
      have HR := Lib.hid (step_no (s := m.s) (d := m.d) (k := m.k) (xs := m.xs) (fun hh => by rw [hmy] at hh; cases hh.1))
      clear hmy
      go_upto_region 3 with (first
        | (refine w_load (ldHb (show Box _ (w.heap.size) (hv m.s) from S2.out.box 0 (by decide))) rfl rfl rfl rfl ?_)
        | ((go_at_call 24); (with_reducible refine (C1.out _ (S2.out.at m (by simp)) (S2.out.over HI.out.sz)).mono ?_); rintro e9 w9 ⟨rfl, hb9⟩; have S3 := Lib.hid (S2.out.next hb9); clear hb9))
      have KE := S3
      refine Sh.region_gen fun a0 ha0 => ?_
      have G2 : a0.tmps[2]? = some (.pointer (some ⟨w.heap.size, 0, none⟩)) := by rw [ha0]; rfl
      have G3 : a0.tmps[3]? = some (.pointer (some ⟨w.heap.size + 1, 0, none⟩)) := by rw [ha0]; rfl
      have G4 : a0.tmps[4]? = some (.pointer (some ⟨w.heap.size + 2, 0, none⟩)) := by rw [ha0]; rfl
      have G5 : a0.tmps[5]? = some (.pointer (some ⟨w.heap.size + 3, 0, none⟩)) := by rw [ha0]; rfl
      have TD : a0.defers = [] := congrArg Act.defers ha0
      have TZ : a0.tmps.size = 49 := by rw [ha0]; rfl
      clear ha0
      refine region_plan (by kernel_rfl) (by kernel_rfl) (by rw [TZ]; kernel_rfl) (fun (_ : Unit) (i : Nat) => (match i with | 0 => (.agg #[.slice m.s.w.a m.s.w.n m.s.w.c, .slice m.s.p.a m.s.p.n m.s.p.c, .slice (m.s.u 0).a (m.s.u 0).n (m.s.u 0).c, .slice (m.s.u 1).a (m.s.u 1).n (m.s.u 1).c, .slice (m.s.u 2).a (m.s.u 2).n (m.s.u 2).c, .slice m.s.c.a m.s.c.n m.s.c.c]) | 1 => (.agg #[.int .i64 m.k.ph, .int .i64 m.k.ep, .bool m.k.mj, .slice m.k.wk.a m.k.wk.n m.k.wk.c, .bool m.k.ov, .int .i64 m.k.pa, .int .i64 m.k.pf, .int .i64 m.k.ps, .int .i64 m.k.pc, .bool m.k.me]) | _ => undef : Value)) (fun _ l W => R4 w (p4 w.heap.size (w.heap.size + 1) (w.heap.size + 2) (w.heap.size + 3)) m m.k 2 3 l W) () ?start ?step ?done
      case start => exact r4_start (KE.out.next ⟨rfl, rfl, rfl, Nat.le_refl _, fun _ _ => rfl⟩)
      case step =>
        rintro i o9 l a9 _ W9 ho hP hI hl haft K hK
        have hi : i < 4 := (Array.getElem?_eq_some_iff.1 ho).1
        rcases (show i = 0 ∨ i = 1 ∨ i = 2 ∨ i = 3 by omega) with rfl | rfl | rfl | rfl
        · obtain rfl := Option.some.inj ho
          have q9 := (hP.keep (j := 2) (by kernel_rfl)).trans G2
          exact p_load rfl (ev q9) (ldHb (show Box W9 (w.heap.size) (hv m.s) from hI.st.box 0 (by decide))) (hK () _ (fun _ _ => rfl) (hI.pure (by decide) (by decide)))
        · obtain rfl := Option.some.inj ho
          have q9 := (hP.keep (j := 3) (by kernel_rfl)).trans G3
          exact p_load rfl (ev q9) (ldKb (show Box W9 (w.heap.size + 1) (kv m.k) from hI.st.box 1 (by decide))) (hK () _ (fun _ _ => rfl) (hI.pure (by decide) (by decide)))
        · obtain rfl := Option.some.inj ho
          have e9 := hP.got 0 _ 18 rfl (haft ⟨0, .data⟩ (by simp) rfl) rfl
          try dsimp only at e9
          have q9 := (hP.keep (j := 4) (by kernel_rfl)).trans G4
          exact p_store rfl (ev q9) (ev e9) (stHb (show Box W9 (w.heap.size + 2) _ from hI.st.box 2 (by decide)) sel_h (m.s)) (hK () _ (fun _ _ => rfl) (hI.putH (by decide)))
        · obtain rfl := Option.some.inj ho
          have e9 := hP.got 1 _ 19 rfl (haft ⟨1, .data⟩ (by simp) rfl) rfl
          try dsimp only at e9
          have q9 := (hP.keep (j := 5) (by kernel_rfl)).trans G5
          exact p_store rfl (ev q9) (ev e9) (stKb (show Box W9 (w.heap.size + 3) _ from hI.st.box 3 (by decide)) sel_k (m.k)) (hK () _ (fun _ _ => rfl) (hI.putK (by decide)))
      case done =>
        rintro l a9 _ W9 hP hI hall
        have t4 := (hP.keep (j := 4) (by kernel_rfl)).trans G4
        have t5 := (hP.keep (j := 5) (by kernel_rfl)).trans G5
        have td := hP.df.trans TD
        have D9 := Lib.hid (hI.done (hall 2 (by decide)) (hall 3 (by decide)))
        clear hP hI hall
        go_wp2
        exact bodyPost_ret (resHK rfl t4 t5 (show Box W9 (w.heap.size + 2) (hv m.s) from D9.out.box 2 (by decide)) (show Box W9 (w.heap.size + 3) (kv m.k) from D9.out.box 3 (by decide))) td (by
        have E := st_of (m2 := m) MD.out.2.2.2.1 MD.out.1 MD.out.2.1 MD.out.2.2.1 (lens_refl _) (by rw [HR.out]) (by rw [HR.out]) (by rw [HR.out]; rfl)
        exact ⟨m, rfl, E.1, E.2.1, E.2.2.1, E.2.2.2, D9.out.at _ (List.mem_singleton.2 rfl), (N2.out).less (Nat.le_add_right _ _), D9.out.bel⟩)
    · rw [hmy] at C1
      by_cases h5 : m.k.ph = 5
      case neg =>
        have c1 : decide (m.k.ph = 5) = false := decide_eq_false h5
        have c2 : (m.k.ph == 5) = false := c1
        have c3 : (m.k.ph != 5) = true := by rw [bne, c2]; rfl
        have HR := Lib.hid (step_no (s := m.s) (d := m.d) (k := m.k) (xs := m.xs) (fun hh => h5 hh.2))
        clear hmy h5
        go_upto_region 3 with (first
          | (refine w_load (ldHb (show Box _ (w.heap.size) (hv m.s) from S2.out.box 0 (by decide))) rfl rfl rfl rfl ?_)
          | ((go_at_call 24); (with_reducible refine (C1.out _ (S2.out.at m (by simp)) (S2.out.over HI.out.sz)).mono ?_); rintro e9 w9 ⟨rfl, hb9⟩; have S3 := Lib.hid (S2.out.next hb9); clear hb9; have q0 := (show Box _ (w.heap.size + 1) (kv m.k) from S3.out.box 1 (by decide)).cel 0 (.int .i64 m.k.ph) rfl))
        clear q0 c1 c2 c3
        have KE := S3
        refine Sh.region_gen fun a0 ha0 => ?_
        have G2 : a0.tmps[2]? = some (.pointer (some ⟨w.heap.size, 0, none⟩)) := by rw [ha0]; rfl
        have G3 : a0.tmps[3]? = some (.pointer (some ⟨w.heap.size + 1, 0, none⟩)) := by rw [ha0]; rfl
        have G4 : a0.tmps[4]? = some (.pointer (some ⟨w.heap.size + 2, 0, none⟩)) := by rw [ha0]; rfl
        have G5 : a0.tmps[5]? = some (.pointer (some ⟨w.heap.size + 3, 0, none⟩)) := by rw [ha0]; rfl
        have TD : a0.defers = [] := congrArg Act.defers ha0
        have TZ : a0.tmps.size = 49 := by rw [ha0]; rfl
        clear ha0
        refine region_plan (by kernel_rfl) (by kernel_rfl) (by rw [TZ]; kernel_rfl) (fun (_ : Unit) (i : Nat) => (match i with | 0 => (.agg #[.slice m.s.w.a m.s.w.n m.s.w.c, .slice m.s.p.a m.s.p.n m.s.p.c, .slice (m.s.u 0).a (m.s.u 0).n (m.s.u 0).c, .slice (m.s.u 1).a (m.s.u 1).n (m.s.u 1).c, .slice (m.s.u 2).a (m.s.u 2).n (m.s.u 2).c, .slice m.s.c.a m.s.c.n m.s.c.c]) | 1 => (.agg #[.int .i64 m.k.ph, .int .i64 m.k.ep, .bool m.k.mj, .slice m.k.wk.a m.k.wk.n m.k.wk.c, .bool m.k.ov, .int .i64 m.k.pa, .int .i64 m.k.pf, .int .i64 m.k.ps, .int .i64 m.k.pc, .bool m.k.me]) | _ => undef : Value)) (fun _ l W => R4 w (p4 w.heap.size (w.heap.size + 1) (w.heap.size + 2) (w.heap.size + 3)) m m.k 2 3 l W) () ?start ?step ?done
        case start => exact r4_start (KE.out.next ⟨rfl, rfl, rfl, Nat.le_refl _, fun _ _ => rfl⟩)
        case step =>
          rintro i o9 l a9 _ W9 ho hP hI hl haft K hK
          have hi : i < 4 := (Array.getElem?_eq_some_iff.1 ho).1
          rcases (show i = 0 ∨ i = 1 ∨ i = 2 ∨ i = 3 by omega) with rfl | rfl | rfl | rfl
          · obtain rfl := Option.some.inj ho
            have q9 := (hP.keep (j := 2) (by kernel_rfl)).trans G2
            exact p_load rfl (ev q9) (ldHb (show Box W9 (w.heap.size) (hv m.s) from hI.st.box 0 (by decide))) (hK () _ (fun _ _ => rfl) (hI.pure (by decide) (by decide)))
          · obtain rfl := Option.some.inj ho
            have q9 := (hP.keep (j := 3) (by kernel_rfl)).trans G3
            exact p_load rfl (ev q9) (ldKb (show Box W9 (w.heap.size + 1) (kv m.k) from hI.st.box 1 (by decide))) (hK () _ (fun _ _ => rfl) (hI.pure (by decide) (by decide)))
          · obtain rfl := Option.some.inj ho
            have e9 := hP.got 0 _ 18 rfl (haft ⟨0, .data⟩ (by simp) rfl) rfl
            try dsimp only at e9
            have q9 := (hP.keep (j := 4) (by kernel_rfl)).trans G4
            exact p_store rfl (ev q9) (ev e9) (stHb (show Box W9 (w.heap.size + 2) _ from hI.st.box 2 (by decide)) sel_h (m.s)) (hK () _ (fun _ _ => rfl) (hI.putH (by decide)))
          · obtain rfl := Option.some.inj ho
            have e9 := hP.got 1 _ 19 rfl (haft ⟨1, .data⟩ (by simp) rfl) rfl
            try dsimp only at e9
            have q9 := (hP.keep (j := 5) (by kernel_rfl)).trans G5
            exact p_store rfl (ev q9) (ev e9) (stKb (show Box W9 (w.heap.size + 3) _ from hI.st.box 3 (by decide)) sel_k (m.k)) (hK () _ (fun _ _ => rfl) (hI.putK (by decide)))
        case done =>
          rintro l a9 _ W9 hP hI hall
          have t4 := (hP.keep (j := 4) (by kernel_rfl)).trans G4
          have t5 := (hP.keep (j := 5) (by kernel_rfl)).trans G5
          have td := hP.df.trans TD
          have D9 := Lib.hid (hI.done (hall 2 (by decide)) (hall 3 (by decide)))
          clear hP hI hall
          go_wp2
          exact bodyPost_ret (resHK rfl t4 t5 (show Box W9 (w.heap.size + 2) (hv m.s) from D9.out.box 2 (by decide)) (show Box W9 (w.heap.size + 3) (kv m.k) from D9.out.box 3 (by decide))) td (by
        have E := st_of (m2 := m) MD.out.2.2.2.1 MD.out.1 MD.out.2.1 MD.out.2.2.1 (lens_refl _) (by rw [HR.out]) (by rw [HR.out]) (by rw [HR.out]; rfl)
        exact ⟨m, rfl, E.1, E.2.1, E.2.2.1, E.2.2.2, D9.out.at _ (List.mem_singleton.2 rfl), (N2.out).less (Nat.le_add_right _ _), D9.out.bel⟩)
      case pos =>
        have c1 : decide (m.k.ph = 5) = true := decide_eq_true h5
        have c2 : (m.k.ph == 5) = true := c1
        have c3 : (m.k.ph != 5) = false := by rw [bne, c2]; rfl
        have HO := Lib.hid (step_on (xs := m.xs) ⟨hmy, h5⟩)
        have hwl : m.k.wk.n = m.xs.length := (S2.out.at m (by simp)).c.len
        have C2 := Lib.hid (fun W => which_any m.k W (by have := EX.out; omega))
        rw [wh_n m.k m.xs hwl] at C2
        have HWL := Lib.hid hwl
        clear hmy h5 hwl
        go_upto_region 4 with (first
          | (refine w_load (ldHb (show Box _ (w.heap.size) (hv m.s) from S2.out.box 0 (by decide))) rfl rfl rfl rfl ?_)
          | ((go_at_call 24); (with_reducible refine (C1.out _ (S2.out.at m (by simp)) (S2.out.over HI.out.sz)).mono ?_); rintro e9 w9 ⟨rfl, hb9⟩; have S3 := Lib.hid (S2.out.next hb9); clear hb9; have q0 := (show Box _ (w.heap.size + 1) (kv m.k) from S3.out.box 1 (by decide)).cel 0 (.int .i64 m.k.ph) rfl))
        clear q0 c1 c2 c3
        rcases wh_cases m.k m.xs with hw | hw | hw | hw | hw
        · rw [hw] at C2
          have HR := Lib.hid (HO.out.trans (show onR m.s m.d m.k m.xs = (fieldR m.s m.d m.k m.xs : R3) from if_pos hw))
          have C3 := Lib.hid (fun W (hW : Hold W m) (hz : Cl.Sz W) => field_any m W hW hz (by rw [MD.out.1]; exact FM.out) EX.out)
          clear hw
          go_upto_region 5 with (first
            | (refine w_load (ldKb (show Box _ (w.heap.size + 1) (kv m.k) from S3.out.box 1 (by decide))) rfl rfl rfl rfl ?_)
            | ((go_at_call 71); (with_reducible refine (C2.out _).mono ?_); rintro e9 w9 ⟨rfl, hb9⟩; have S4 := Lib.hid (S3.out.next hb9); clear hb9))
          go_upto_region 6 with fail
          go_upto_region 15 with (first
            | (refine w_load (ldHb (show Box _ (w.heap.size) (hv m.s) from S4.out.box 0 (by decide))) rfl rfl rfl rfl ?_)
            | (refine w_load (ldKb (show Box _ (w.heap.size + 1) (kv m.k) from S4.out.box 1 (by decide))) rfl rfl rfl rfl ?_)
            | ((go_at_call 72); (with_reducible refine (C3.out _ (S4.out.at m (by simp)) (S4.out.over HI.out.sz)).mono ?_); rintro e9 w9 ⟨z, rfl, hl9, hd9, hx9, hk9, hh9, hn9, hb9⟩; have NZ := Lib.hid (hn9 (w.heap.size + 4) (by have := S4.out.lt (i := 3) (by decide); simp only [p4] at this; omega) N2.out); have S5 := Lib.hid (S4.out.swap hh9 (OFF.out z NZ.out) hb9); have Z9 := Lib.hid (And.intro hl9 (And.intro hd9 (And.intro hx9 hk9))); clear hl9 hd9 hx9 hk9 hh9 hn9 hb9)
            | (refine w_putH S5.out 0 (by decide) z.s (c' := c4 (hv z.s) (kv m.k) (hv noHs0) (kv noK0)) rfl (all4 ⟨rfl, rfl, rfl, rfl⟩) rfl rfl rfl rfl rfl ?_; intro W6 h6; have S6 := Lib.hid h6; clear h6)
            | (refine w_putK S6.out 1 (by decide) z.k (c' := c4 (hv z.s) (kv z.k) (hv noHs0) (kv noK0)) rfl (all4 ⟨rfl, rfl, rfl, rfl⟩) rfl rfl rfl rfl rfl ?_; intro W7 h7; have S7 := Lib.hid h7; clear h7))
          have KE := S7
          refine Sh.region_gen fun a0 ha0 => ?_
          have G2 : a0.tmps[2]? = some (.pointer (some ⟨w.heap.size, 0, none⟩)) := by rw [ha0]; rfl
          have G3 : a0.tmps[3]? = some (.pointer (some ⟨w.heap.size + 1, 0, none⟩)) := by rw [ha0]; rfl
          have G4 : a0.tmps[4]? = some (.pointer (some ⟨w.heap.size + 2, 0, none⟩)) := by rw [ha0]; rfl
          have G5 : a0.tmps[5]? = some (.pointer (some ⟨w.heap.size + 3, 0, none⟩)) := by rw [ha0]; rfl
          have TD : a0.defers = [] := congrArg Act.defers ha0
          have TZ : a0.tmps.size = 49 := by rw [ha0]; rfl
          clear ha0
          refine region_plan (by kernel_rfl) (by kernel_rfl) (by rw [TZ]; kernel_rfl) (fun (_ : Unit) (i : Nat) => (match i with | 0 => (.agg #[.slice z.s.w.a z.s.w.n z.s.w.c, .slice z.s.p.a z.s.p.n z.s.p.c, .slice (z.s.u 0).a (z.s.u 0).n (z.s.u 0).c, .slice (z.s.u 1).a (z.s.u 1).n (z.s.u 1).c, .slice (z.s.u 2).a (z.s.u 2).n (z.s.u 2).c, .slice z.s.c.a z.s.c.n z.s.c.c]) | 1 => (.agg #[.int .i64 z.k.ph, .int .i64 z.k.ep, .bool z.k.mj, .slice z.k.wk.a z.k.wk.n z.k.wk.c, .bool z.k.ov, .int .i64 z.k.pa, .int .i64 z.k.pf, .int .i64 z.k.ps, .int .i64 z.k.pc, .bool z.k.me]) | _ => undef : Value)) (fun _ l W => R4 w (p4 w.heap.size (w.heap.size + 1) (w.heap.size + 2) (w.heap.size + 3)) z z.k 2 3 l W) () ?start ?step ?done
          case start => exact r4_start (KE.out.next ⟨rfl, rfl, rfl, Nat.le_refl _, fun _ _ => rfl⟩)
          case step =>
            rintro i o9 l a9 _ W9 ho hP hI hl haft K hK
            have hi : i < 4 := (Array.getElem?_eq_some_iff.1 ho).1
            rcases (show i = 0 ∨ i = 1 ∨ i = 2 ∨ i = 3 by omega) with rfl | rfl | rfl | rfl
            · obtain rfl := Option.some.inj ho
              have q9 := (hP.keep (j := 2) (by kernel_rfl)).trans G2
              exact p_load rfl (ev q9) (ldHb (show Box W9 (w.heap.size) (hv z.s) from hI.st.box 0 (by decide))) (hK () _ (fun _ _ => rfl) (hI.pure (by decide) (by decide)))
            · obtain rfl := Option.some.inj ho
              have q9 := (hP.keep (j := 3) (by kernel_rfl)).trans G3
              exact p_load rfl (ev q9) (ldKb (show Box W9 (w.heap.size + 1) (kv z.k) from hI.st.box 1 (by decide))) (hK () _ (fun _ _ => rfl) (hI.pure (by decide) (by decide)))
            · obtain rfl := Option.some.inj ho
              have e9 := hP.got 0 _ 47 rfl (haft ⟨0, .data⟩ (by simp) rfl) rfl
              try dsimp only at e9
              have q9 := (hP.keep (j := 4) (by kernel_rfl)).trans G4
              exact p_store rfl (ev q9) (ev e9) (stHb (show Box W9 (w.heap.size + 2) _ from hI.st.box 2 (by decide)) sel_h (z.s)) (hK () _ (fun _ _ => rfl) (hI.putH (by decide)))
            · obtain rfl := Option.some.inj ho
              have e9 := hP.got 1 _ 48 rfl (haft ⟨1, .data⟩ (by simp) rfl) rfl
              try dsimp only at e9
              have q9 := (hP.keep (j := 5) (by kernel_rfl)).trans G5
              exact p_store rfl (ev q9) (ev e9) (stKb (show Box W9 (w.heap.size + 3) _ from hI.st.box 3 (by decide)) sel_k (z.k)) (hK () _ (fun _ _ => rfl) (hI.putK (by decide)))
          case done =>
            rintro l a9 _ W9 hP hI hall
            have t4 := (hP.keep (j := 4) (by kernel_rfl)).trans G4
            have t5 := (hP.keep (j := 5) (by kernel_rfl)).trans G5
            have td := hP.df.trans TD
            have D9 := Lib.hid (hI.done (hall 2 (by decide)) (hall 3 (by decide)))
            clear hP hI hall
            go_wp2
            exact bodyPost_ret (resHK rfl t4 t5 (show Box W9 (w.heap.size + 2) (hv z.s) from D9.out.box 2 (by decide)) (show Box W9 (w.heap.size + 3) (kv z.k) from D9.out.box 3 (by decide))) td (by
        have E := st_of (m2 := z) MD.out.2.2.2.1 MD.out.1 MD.out.2.1 MD.out.2.2.1 Z9.out.1 (by rw [HR.out]; exact Z9.out.2.1) (by rw [HR.out]; exact Z9.out.2.2.1) (by rw [HR.out]; exact Z9.out.2.2.2)
        exact ⟨z, rfl, E.1, E.2.1, E.2.2.1, E.2.2.2, D9.out.at _ (List.mem_singleton.2 rfl), (NZ.out).less (Nat.le_add_right _ _), D9.out.bel⟩)
        · rw [hw] at C2
          have HR := Lib.hid (HO.out.trans (show onR m.s m.d m.k m.xs = (takeR m.d m.k m.xs : R3) from (if_neg (by omega)).trans (if_pos hw)))
          obtain ⟨q, hq⟩ : ∃ q, m.k.wk.n = q + 1 := by
            have : 0 < m.xs.length := by
              unfold wh at hw
              split at hw
              · omega
              · split at hw
                · assumption
                · split at hw
                  · omega
                  · split at hw <;> omega
            exact ⟨m.k.wk.n - 1, by have := HWL.out; omega⟩
          have hlq : m.xs.length - 1 = q := by have := HWL.out; omega
          have HQ := Lib.hid (And.intro hq hlq)
          obtain ⟨y, hy⟩ : ∃ y, y = m.xs.getD q 0 := ⟨_, rfl⟩
          have C3 := Lib.hid (fun W (hW : Hold W m) => last_any m.k m.xs q y W hq hy.symm hW.c (by have := MD.out.2.2.2.2; omega) (by have := EX.out; omega))
          have HY := Lib.hid hy
          clear hq hlq hy
          clear hw
          go_upto_region 5 with (first
            | (refine w_load (ldKb (show Box _ (w.heap.size + 1) (kv m.k) from S3.out.box 1 (by decide))) rfl rfl rfl rfl ?_)
            | ((go_at_call 71); (with_reducible refine (C2.out _).mono ?_); rintro e9 w9 ⟨rfl, hb9⟩; have S4 := Lib.hid (S3.out.next hb9); clear hb9))
          go_upto_region 8 with fail
          go_upto_region 15 with (first
            | (refine w_load (ldKb (show Box _ (w.heap.size + 1) (kv m.k) from S4.out.box 1 (by decide))) rfl rfl rfl rfl ?_)
            | ((go_at_call 73); (with_reducible refine (C3.out _ (S4.out.at m (by simp))).mono ?_); rintro e9 w9 ⟨rfl, hb9⟩; have S5 := Lib.hid (S4.out.next hb9); clear hb9)
            | (refine w_putK S5.out 1 (by decide) (kp (Sh.kw m.k ⟨m.k.wk.a, q, m.k.wk.c⟩ m.k.ov) y 0) (c' := (c4 (hv m.s) (kv (kp (Sh.kw m.k ⟨m.k.wk.a, q, m.k.wk.c⟩ m.k.ov) y 0)) (hv noHs0) (kv noK0))) rfl (all4 ⟨rfl, rfl, rfl, rfl⟩) rfl rfl rfl rfl rfl ?_; intro W6 h6; have S6 := Lib.hid h6; clear h6))
          have S7 := Lib.hid (S6.out.bare.held (n := ⟨m.s, (kp (Sh.kw m.k ⟨m.k.wk.a, q, m.k.wk.c⟩ m.k.ov) y 0), m.d, m.xs.take q⟩) ⟨(S6.out.at m (by simp)).h, by have h := (S6.out.at m (by simp)).c; exact Row.take h (show q ≤ m.k.wk.n by have := HQ.out.1; omega)⟩ fun i hi => ⟨((S6.out.hold m (by simp)).2 i hi).h, fun _ => (show Mu.Off _ m.k.wk from ((S6.out.hold m (by simp)).2 i hi).k) (by have := HQ.out.1; omega)⟩)
          have KE := S7
          refine Sh.region_gen fun a0 ha0 => ?_
          have G2 : a0.tmps[2]? = some (.pointer (some ⟨w.heap.size, 0, none⟩)) := by rw [ha0]; rfl
          have G3 : a0.tmps[3]? = some (.pointer (some ⟨w.heap.size + 1, 0, none⟩)) := by rw [ha0]; rfl
          have G4 : a0.tmps[4]? = some (.pointer (some ⟨w.heap.size + 2, 0, none⟩)) := by rw [ha0]; rfl
          have G5 : a0.tmps[5]? = some (.pointer (some ⟨w.heap.size + 3, 0, none⟩)) := by rw [ha0]; rfl
          have TD : a0.defers = [] := congrArg Act.defers ha0
          have TZ : a0.tmps.size = 49 := by rw [ha0]; rfl
          clear ha0
          refine region_plan (by kernel_rfl) (by kernel_rfl) (by rw [TZ]; kernel_rfl) (fun (_ : Unit) (i : Nat) => (match i with | 0 => (.agg #[.slice (⟨m.s, (kp (Sh.kw m.k ⟨m.k.wk.a, q, m.k.wk.c⟩ m.k.ov) y 0), m.d, m.xs.take q⟩ : Q2).s.w.a (⟨m.s, (kp (Sh.kw m.k ⟨m.k.wk.a, q, m.k.wk.c⟩ m.k.ov) y 0), m.d, m.xs.take q⟩ : Q2).s.w.n (⟨m.s, (kp (Sh.kw m.k ⟨m.k.wk.a, q, m.k.wk.c⟩ m.k.ov) y 0), m.d, m.xs.take q⟩ : Q2).s.w.c, .slice (⟨m.s, (kp (Sh.kw m.k ⟨m.k.wk.a, q, m.k.wk.c⟩ m.k.ov) y 0), m.d, m.xs.take q⟩ : Q2).s.p.a (⟨m.s, (kp (Sh.kw m.k ⟨m.k.wk.a, q, m.k.wk.c⟩ m.k.ov) y 0), m.d, m.xs.take q⟩ : Q2).s.p.n (⟨m.s, (kp (Sh.kw m.k ⟨m.k.wk.a, q, m.k.wk.c⟩ m.k.ov) y 0), m.d, m.xs.take q⟩ : Q2).s.p.c, .slice ((⟨m.s, (kp (Sh.kw m.k ⟨m.k.wk.a, q, m.k.wk.c⟩ m.k.ov) y 0), m.d, m.xs.take q⟩ : Q2).s.u 0).a ((⟨m.s, (kp (Sh.kw m.k ⟨m.k.wk.a, q, m.k.wk.c⟩ m.k.ov) y 0), m.d, m.xs.take q⟩ : Q2).s.u 0).n ((⟨m.s, (kp (Sh.kw m.k ⟨m.k.wk.a, q, m.k.wk.c⟩ m.k.ov) y 0), m.d, m.xs.take q⟩ : Q2).s.u 0).c, .slice ((⟨m.s, (kp (Sh.kw m.k ⟨m.k.wk.a, q, m.k.wk.c⟩ m.k.ov) y 0), m.d, m.xs.take q⟩ : Q2).s.u 1).a ((⟨m.s, (kp (Sh.kw m.k ⟨m.k.wk.a, q, m.k.wk.c⟩ m.k.ov) y 0), m.d, m.xs.take q⟩ : Q2).s.u 1).n ((⟨m.s, (kp (Sh.kw m.k ⟨m.k.wk.a, q, m.k.wk.c⟩ m.k.ov) y 0), m.d, m.xs.take q⟩ : Q2).s.u 1).c, .slice ((⟨m.s, (kp (Sh.kw m.k ⟨m.k.wk.a, q, m.k.wk.c⟩ m.k.ov) y 0), m.d, m.xs.take q⟩ : Q2).s.u 2).a ((⟨m.s, (kp (Sh.kw m.k ⟨m.k.wk.a, q, m.k.wk.c⟩ m.k.ov) y 0), m.d, m.xs.take q⟩ : Q2).s.u 2).n ((⟨m.s, (kp (Sh.kw m.k ⟨m.k.wk.a, q, m.k.wk.c⟩ m.k.ov) y 0), m.d, m.xs.take q⟩ : Q2).s.u 2).c, .slice (⟨m.s, (kp (Sh.kw m.k ⟨m.k.wk.a, q, m.k.wk.c⟩ m.k.ov) y 0), m.d, m.xs.take q⟩ : Q2).s.c.a (⟨m.s, (kp (Sh.kw m.k ⟨m.k.wk.a, q, m.k.wk.c⟩ m.k.ov) y 0), m.d, m.xs.take q⟩ : Q2).s.c.n (⟨m.s, (kp (Sh.kw m.k ⟨m.k.wk.a, q, m.k.wk.c⟩ m.k.ov) y 0), m.d, m.xs.take q⟩ : Q2).s.c.c]) | 1 => (.agg #[.int .i64 (⟨m.s, (kp (Sh.kw m.k ⟨m.k.wk.a, q, m.k.wk.c⟩ m.k.ov) y 0), m.d, m.xs.take q⟩ : Q2).k.ph, .int .i64 (⟨m.s, (kp (Sh.kw m.k ⟨m.k.wk.a, q, m.k.wk.c⟩ m.k.ov) y 0), m.d, m.xs.take q⟩ : Q2).k.ep, .bool (⟨m.s, (kp (Sh.kw m.k ⟨m.k.wk.a, q, m.k.wk.c⟩ m.k.ov) y 0), m.d, m.xs.take q⟩ : Q2).k.mj, .slice (⟨m.s, (kp (Sh.kw m.k ⟨m.k.wk.a, q, m.k.wk.c⟩ m.k.ov) y 0), m.d, m.xs.take q⟩ : Q2).k.wk.a (⟨m.s, (kp (Sh.kw m.k ⟨m.k.wk.a, q, m.k.wk.c⟩ m.k.ov) y 0), m.d, m.xs.take q⟩ : Q2).k.wk.n (⟨m.s, (kp (Sh.kw m.k ⟨m.k.wk.a, q, m.k.wk.c⟩ m.k.ov) y 0), m.d, m.xs.take q⟩ : Q2).k.wk.c, .bool (⟨m.s, (kp (Sh.kw m.k ⟨m.k.wk.a, q, m.k.wk.c⟩ m.k.ov) y 0), m.d, m.xs.take q⟩ : Q2).k.ov, .int .i64 (⟨m.s, (kp (Sh.kw m.k ⟨m.k.wk.a, q, m.k.wk.c⟩ m.k.ov) y 0), m.d, m.xs.take q⟩ : Q2).k.pa, .int .i64 (⟨m.s, (kp (Sh.kw m.k ⟨m.k.wk.a, q, m.k.wk.c⟩ m.k.ov) y 0), m.d, m.xs.take q⟩ : Q2).k.pf, .int .i64 (⟨m.s, (kp (Sh.kw m.k ⟨m.k.wk.a, q, m.k.wk.c⟩ m.k.ov) y 0), m.d, m.xs.take q⟩ : Q2).k.ps, .int .i64 (⟨m.s, (kp (Sh.kw m.k ⟨m.k.wk.a, q, m.k.wk.c⟩ m.k.ov) y 0), m.d, m.xs.take q⟩ : Q2).k.pc, .bool (⟨m.s, (kp (Sh.kw m.k ⟨m.k.wk.a, q, m.k.wk.c⟩ m.k.ov) y 0), m.d, m.xs.take q⟩ : Q2).k.me]) | _ => undef : Value)) (fun _ l W => R4 w (p4 w.heap.size (w.heap.size + 1) (w.heap.size + 2) (w.heap.size + 3)) (⟨m.s, (kp (Sh.kw m.k ⟨m.k.wk.a, q, m.k.wk.c⟩ m.k.ov) y 0), m.d, m.xs.take q⟩ : Q2) (⟨m.s, (kp (Sh.kw m.k ⟨m.k.wk.a, q, m.k.wk.c⟩ m.k.ov) y 0), m.d, m.xs.take q⟩ : Q2).k 2 3 l W) () ?start ?step ?done
          case start => exact r4_start (KE.out.next ⟨rfl, rfl, rfl, Nat.le_refl _, fun _ _ => rfl⟩)
          case step =>
            rintro i o9 l a9 _ W9 ho hP hI hl haft K hK
            have hi : i < 4 := (Array.getElem?_eq_some_iff.1 ho).1
            rcases (show i = 0 ∨ i = 1 ∨ i = 2 ∨ i = 3 by omega) with rfl | rfl | rfl | rfl
            · obtain rfl := Option.some.inj ho
              have q9 := (hP.keep (j := 2) (by kernel_rfl)).trans G2
              exact p_load rfl (ev q9) (ldHb (show Box W9 (w.heap.size) (hv (⟨m.s, (kp (Sh.kw m.k ⟨m.k.wk.a, q, m.k.wk.c⟩ m.k.ov) y 0), m.d, m.xs.take q⟩ : Q2).s) from hI.st.box 0 (by decide))) (hK () _ (fun _ _ => rfl) (hI.pure (by decide) (by decide)))
            · obtain rfl := Option.some.inj ho
              have q9 := (hP.keep (j := 3) (by kernel_rfl)).trans G3
              exact p_load rfl (ev q9) (ldKb (show Box W9 (w.heap.size + 1) (kv (⟨m.s, (kp (Sh.kw m.k ⟨m.k.wk.a, q, m.k.wk.c⟩ m.k.ov) y 0), m.d, m.xs.take q⟩ : Q2).k) from hI.st.box 1 (by decide))) (hK () _ (fun _ _ => rfl) (hI.pure (by decide) (by decide)))
            · obtain rfl := Option.some.inj ho
              have e9 := hP.got 0 _ 47 rfl (haft ⟨0, .data⟩ (by simp) rfl) rfl
              try dsimp only at e9
              have q9 := (hP.keep (j := 4) (by kernel_rfl)).trans G4
              exact p_store rfl (ev q9) (ev e9) (stHb (show Box W9 (w.heap.size + 2) _ from hI.st.box 2 (by decide)) sel_h ((⟨m.s, (kp (Sh.kw m.k ⟨m.k.wk.a, q, m.k.wk.c⟩ m.k.ov) y 0), m.d, m.xs.take q⟩ : Q2).s)) (hK () _ (fun _ _ => rfl) (hI.putH (by decide)))
            · obtain rfl := Option.some.inj ho
              have e9 := hP.got 1 _ 48 rfl (haft ⟨1, .data⟩ (by simp) rfl) rfl
              try dsimp only at e9
              have q9 := (hP.keep (j := 5) (by kernel_rfl)).trans G5
              exact p_store rfl (ev q9) (ev e9) (stKb (show Box W9 (w.heap.size + 3) _ from hI.st.box 3 (by decide)) sel_k ((⟨m.s, (kp (Sh.kw m.k ⟨m.k.wk.a, q, m.k.wk.c⟩ m.k.ov) y 0), m.d, m.xs.take q⟩ : Q2).k)) (hK () _ (fun _ _ => rfl) (hI.putK (by decide)))
          case done =>
            rintro l a9 _ W9 hP hI hall
            have t4 := (hP.keep (j := 4) (by kernel_rfl)).trans G4
            have t5 := (hP.keep (j := 5) (by kernel_rfl)).trans G5
            have td := hP.df.trans TD
            have D9 := Lib.hid (hI.done (hall 2 (by decide)) (hall 3 (by decide)))
            clear hP hI hall
            go_wp2
            exact bodyPost_ret (resHK rfl t4 t5 (show Box W9 (w.heap.size + 2) (hv (⟨m.s, (kp (Sh.kw m.k ⟨m.k.wk.a, q, m.k.wk.c⟩ m.k.ov) y 0), m.d, m.xs.take q⟩ : Q2).s) from D9.out.box 2 (by decide)) (show Box W9 (w.heap.size + 3) (kv (⟨m.s, (kp (Sh.kw m.k ⟨m.k.wk.a, q, m.k.wk.c⟩ m.k.ov) y 0), m.d, m.xs.take q⟩ : Q2).k) from D9.out.box 3 (by decide))) td (by
        have E := st_of (m2 := (⟨m.s, (kp (Sh.kw m.k ⟨m.k.wk.a, q, m.k.wk.c⟩ m.k.ov) y 0), m.d, m.xs.take q⟩ : Q2)) MD.out.2.2.2.1 MD.out.1 MD.out.2.1 MD.out.2.2.1 (lens_refl _) (by rw [HR.out]; rfl) (by rw [HR.out]; show _ = m.xs.take (m.xs.length - 1); rw [HQ.out.2]) (by rw [HR.out]; show _ = Sh.kw (kp m.k (m.xs.getD (m.xs.length - 1) 0) 0) _ _; rw [HQ.out.2, ← HY.out]; rfl)
        exact ⟨(⟨m.s, (kp (Sh.kw m.k ⟨m.k.wk.a, q, m.k.wk.c⟩ m.k.ov) y 0), m.d, m.xs.take q⟩ : Q2), rfl, E.1, E.2.1, E.2.2.1, E.2.2.2, D9.out.at _ (List.mem_singleton.2 rfl), ((show NewQ (w.heap.size + 4) (⟨m.s, (kp (Sh.kw m.k ⟨m.k.wk.a, q, m.k.wk.c⟩ m.k.ov) y 0), m.d, m.xs.take q⟩ : Q2) from ⟨N2.out.h, fun _ => N2.out.k (by have := HQ.out.1; omega)⟩)).less (Nat.le_add_right _ _), D9.out.bel⟩)
        · rw [hw] at C2
          have HR := Lib.hid (HO.out.trans (show onR m.s m.d m.k m.xs = (seekR m.s m.d m.k m.xs : R3) from (if_neg (by omega)).trans ((if_neg (by omega)).trans (if_pos hw))))
          have C3 := Lib.hid (fun W (hW : Hold W m) (hz : Cl.Sz W) => look_any m W hW hz (by rw [MD.out.1]; exact FM.out))
          clear hw
          go_upto_region 5 with (first
            | (refine w_load (ldKb (show Box _ (w.heap.size + 1) (kv m.k) from S3.out.box 1 (by decide))) rfl rfl rfl rfl ?_)
            | ((go_at_call 71); (with_reducible refine (C2.out _).mono ?_); rintro e9 w9 ⟨rfl, hb9⟩; have S4 := Lib.hid (S3.out.next hb9); clear hb9))
          go_upto_region 10 with fail
          go_upto_region 15 with (first
            | (refine w_load (ldHb (show Box _ (w.heap.size) (hv m.s) from S4.out.box 0 (by decide))) rfl rfl rfl rfl ?_)
            | (refine w_load (ldKb (show Box _ (w.heap.size + 1) (kv m.k) from S4.out.box 1 (by decide))) rfl rfl rfl rfl ?_)
            | ((go_at_call 74); (with_reducible refine (C3.out _ (S4.out.at m (by simp)) (S4.out.over HI.out.sz)).mono ?_); rintro e9 w9 ⟨rfl, hb9⟩; have S5 := Lib.hid (S4.out.next hb9); clear hb9)
            | (refine w_putK S5.out 1 (by decide) (seekR m.s m.d m.k m.xs).k (c' := (c4 (hv m.s) (kv (seekR m.s m.d m.k m.xs).k) (hv noHs0) (kv noK0))) rfl (all4 ⟨rfl, rfl, rfl, rfl⟩) rfl rfl rfl rfl rfl ?_; intro W6 h6; have S6 := Lib.hid h6; clear h6))
          have S7 := Lib.hid (Wn.swapk S6.out (seekR m.s m.d m.k m.xs).k (seek_wk _ _ _ _))
          have KE := S7
          refine Sh.region_gen fun a0 ha0 => ?_
          have G2 : a0.tmps[2]? = some (.pointer (some ⟨w.heap.size, 0, none⟩)) := by rw [ha0]; rfl
          have G3 : a0.tmps[3]? = some (.pointer (some ⟨w.heap.size + 1, 0, none⟩)) := by rw [ha0]; rfl
          have G4 : a0.tmps[4]? = some (.pointer (some ⟨w.heap.size + 2, 0, none⟩)) := by rw [ha0]; rfl
          have G5 : a0.tmps[5]? = some (.pointer (some ⟨w.heap.size + 3, 0, none⟩)) := by rw [ha0]; rfl
          have TD : a0.defers = [] := congrArg Act.defers ha0
          have TZ : a0.tmps.size = 49 := by rw [ha0]; rfl
          clear ha0
          refine region_plan (by kernel_rfl) (by kernel_rfl) (by rw [TZ]; kernel_rfl) (fun (_ : Unit) (i : Nat) => (match i with | 0 => (.agg #[.slice (⟨m.s, (seekR m.s m.d m.k m.xs).k, m.d, m.xs⟩ : Q2).s.w.a (⟨m.s, (seekR m.s m.d m.k m.xs).k, m.d, m.xs⟩ : Q2).s.w.n (⟨m.s, (seekR m.s m.d m.k m.xs).k, m.d, m.xs⟩ : Q2).s.w.c, .slice (⟨m.s, (seekR m.s m.d m.k m.xs).k, m.d, m.xs⟩ : Q2).s.p.a (⟨m.s, (seekR m.s m.d m.k m.xs).k, m.d, m.xs⟩ : Q2).s.p.n (⟨m.s, (seekR m.s m.d m.k m.xs).k, m.d, m.xs⟩ : Q2).s.p.c, .slice ((⟨m.s, (seekR m.s m.d m.k m.xs).k, m.d, m.xs⟩ : Q2).s.u 0).a ((⟨m.s, (seekR m.s m.d m.k m.xs).k, m.d, m.xs⟩ : Q2).s.u 0).n ((⟨m.s, (seekR m.s m.d m.k m.xs).k, m.d, m.xs⟩ : Q2).s.u 0).c, .slice ((⟨m.s, (seekR m.s m.d m.k m.xs).k, m.d, m.xs⟩ : Q2).s.u 1).a ((⟨m.s, (seekR m.s m.d m.k m.xs).k, m.d, m.xs⟩ : Q2).s.u 1).n ((⟨m.s, (seekR m.s m.d m.k m.xs).k, m.d, m.xs⟩ : Q2).s.u 1).c, .slice ((⟨m.s, (seekR m.s m.d m.k m.xs).k, m.d, m.xs⟩ : Q2).s.u 2).a ((⟨m.s, (seekR m.s m.d m.k m.xs).k, m.d, m.xs⟩ : Q2).s.u 2).n ((⟨m.s, (seekR m.s m.d m.k m.xs).k, m.d, m.xs⟩ : Q2).s.u 2).c, .slice (⟨m.s, (seekR m.s m.d m.k m.xs).k, m.d, m.xs⟩ : Q2).s.c.a (⟨m.s, (seekR m.s m.d m.k m.xs).k, m.d, m.xs⟩ : Q2).s.c.n (⟨m.s, (seekR m.s m.d m.k m.xs).k, m.d, m.xs⟩ : Q2).s.c.c]) | 1 => (.agg #[.int .i64 (⟨m.s, (seekR m.s m.d m.k m.xs).k, m.d, m.xs⟩ : Q2).k.ph, .int .i64 (⟨m.s, (seekR m.s m.d m.k m.xs).k, m.d, m.xs⟩ : Q2).k.ep, .bool (⟨m.s, (seekR m.s m.d m.k m.xs).k, m.d, m.xs⟩ : Q2).k.mj, .slice (⟨m.s, (seekR m.s m.d m.k m.xs).k, m.d, m.xs⟩ : Q2).k.wk.a (⟨m.s, (seekR m.s m.d m.k m.xs).k, m.d, m.xs⟩ : Q2).k.wk.n (⟨m.s, (seekR m.s m.d m.k m.xs).k, m.d, m.xs⟩ : Q2).k.wk.c, .bool (⟨m.s, (seekR m.s m.d m.k m.xs).k, m.d, m.xs⟩ : Q2).k.ov, .int .i64 (⟨m.s, (seekR m.s m.d m.k m.xs).k, m.d, m.xs⟩ : Q2).k.pa, .int .i64 (⟨m.s, (seekR m.s m.d m.k m.xs).k, m.d, m.xs⟩ : Q2).k.pf, .int .i64 (⟨m.s, (seekR m.s m.d m.k m.xs).k, m.d, m.xs⟩ : Q2).k.ps, .int .i64 (⟨m.s, (seekR m.s m.d m.k m.xs).k, m.d, m.xs⟩ : Q2).k.pc, .bool (⟨m.s, (seekR m.s m.d m.k m.xs).k, m.d, m.xs⟩ : Q2).k.me]) | _ => undef : Value)) (fun _ l W => R4 w (p4 w.heap.size (w.heap.size + 1) (w.heap.size + 2) (w.heap.size + 3)) (⟨m.s, (seekR m.s m.d m.k m.xs).k, m.d, m.xs⟩ : Q2) (⟨m.s, (seekR m.s m.d m.k m.xs).k, m.d, m.xs⟩ : Q2).k 2 3 l W) () ?start ?step ?done
          case start => exact r4_start (KE.out.next ⟨rfl, rfl, rfl, Nat.le_refl _, fun _ _ => rfl⟩)
          case step =>
            rintro i o9 l a9 _ W9 ho hP hI hl haft K hK
            have hi : i < 4 := (Array.getElem?_eq_some_iff.1 ho).1
            rcases (show i = 0 ∨ i = 1 ∨ i = 2 ∨ i = 3 by omega) with rfl | rfl | rfl | rfl
            · obtain rfl := Option.some.inj ho
              have q9 := (hP.keep (j := 2) (by kernel_rfl)).trans G2
              exact p_load rfl (ev q9) (ldHb (show Box W9 (w.heap.size) (hv (⟨m.s, (seekR m.s m.d m.k m.xs).k, m.d, m.xs⟩ : Q2).s) from hI.st.box 0 (by decide))) (hK () _ (fun _ _ => rfl) (hI.pure (by decide) (by decide)))
            · obtain rfl := Option.some.inj ho
              have q9 := (hP.keep (j := 3) (by kernel_rfl)).trans G3
              exact p_load rfl (ev q9) (ldKb (show Box W9 (w.heap.size + 1) (kv (⟨m.s, (seekR m.s m.d m.k m.xs).k, m.d, m.xs⟩ : Q2).k) from hI.st.box 1 (by decide))) (hK () _ (fun _ _ => rfl) (hI.pure (by decide) (by decide)))
            · obtain rfl := Option.some.inj ho
              have e9 := hP.got 0 _ 47 rfl (haft ⟨0, .data⟩ (by simp) rfl) rfl
              try dsimp only at e9
              have q9 := (hP.keep (j := 4) (by kernel_rfl)).trans G4
              exact p_store rfl (ev q9) (ev e9) (stHb (show Box W9 (w.heap.size + 2) _ from hI.st.box 2 (by decide)) sel_h ((⟨m.s, (seekR m.s m.d m.k m.xs).k, m.d, m.xs⟩ : Q2).s)) (hK () _ (fun _ _ => rfl) (hI.putH (by decide)))
            · obtain rfl := Option.some.inj ho
              have e9 := hP.got 1 _ 48 rfl (haft ⟨1, .data⟩ (by simp) rfl) rfl
              try dsimp only at e9
              have q9 := (hP.keep (j := 5) (by kernel_rfl)).trans G5
              exact p_store rfl (ev q9) (ev e9) (stKb (show Box W9 (w.heap.size + 3) _ from hI.st.box 3 (by decide)) sel_k ((⟨m.s, (seekR m.s m.d m.k m.xs).k, m.d, m.xs⟩ : Q2).k)) (hK () _ (fun _ _ => rfl) (hI.putK (by decide)))
          case done =>
            rintro l a9 _ W9 hP hI hall
            have t4 := (hP.keep (j := 4) (by kernel_rfl)).trans G4
            have t5 := (hP.keep (j := 5) (by kernel_rfl)).trans G5
            have td := hP.df.trans TD
            have D9 := Lib.hid (hI.done (hall 2 (by decide)) (hall 3 (by decide)))
            clear hP hI hall
            go_wp2
            exact bodyPost_ret (resHK rfl t4 t5 (show Box W9 (w.heap.size + 2) (hv (⟨m.s, (seekR m.s m.d m.k m.xs).k, m.d, m.xs⟩ : Q2).s) from D9.out.box 2 (by decide)) (show Box W9 (w.heap.size + 3) (kv (⟨m.s, (seekR m.s m.d m.k m.xs).k, m.d, m.xs⟩ : Q2).k) from D9.out.box 3 (by decide))) td (by
        have E := st_of (m2 := (⟨m.s, (seekR m.s m.d m.k m.xs).k, m.d, m.xs⟩ : Q2)) MD.out.2.2.2.1 MD.out.1 MD.out.2.1 MD.out.2.2.1 (lens_refl _) (by rw [HR.out]; exact (seek_xs _ _ _ _).2.symm) (by rw [HR.out]; exact (seek_xs _ _ _ _).1.symm) (by rw [HR.out]; rfl)
        exact ⟨(⟨m.s, (seekR m.s m.d m.k m.xs).k, m.d, m.xs⟩ : Q2), rfl, E.1, E.2.1, E.2.2.1, E.2.2.2, D9.out.at _ (List.mem_singleton.2 rfl), ((show NewQ (w.heap.size + 4) (⟨m.s, (seekR m.s m.d m.k m.xs).k, m.d, m.xs⟩ : Q2) from ⟨N2.out.h, by show 0 < (seekR m.s m.d m.k m.xs).k.wk.n → _; rw [seek_wk]; exact N2.out.k⟩)).less (Nat.le_add_right _ _), D9.out.bel⟩)
        · rw [hw] at C2
          have HR := Lib.hid (HO.out.trans (show onR m.s m.d m.k m.xs = (⟨m.d, kv1 m.k, m.xs⟩ : R3) from (if_neg (by omega)).trans ((if_neg (by omega)).trans ((if_neg (by omega)).trans (if_pos hw)))))
          clear hw
          go_upto_region 5 with (first
            | (refine w_load (ldKb (show Box _ (w.heap.size + 1) (kv m.k) from S3.out.box 1 (by decide))) rfl rfl rfl rfl ?_)
            | ((go_at_call 71); (with_reducible refine (C2.out _).mono ?_); rintro e9 w9 ⟨rfl, hb9⟩; have S4 := Lib.hid (S3.out.next hb9); clear hb9))
          go_upto_region 12 with fail
          have y1 := (show Box _ (w.heap.size + 1) (kv m.k) from S4.out.box 1 (by decide)).free
          go_upto_region 15 with (first
            | (refine w_bool S4.out 1 (by decide) 4 false (vs := kv (⟨m.k.ph, m.k.ep, m.k.mj, m.k.wk, false, m.k.pa, m.k.pf, m.k.ps, m.k.pc, m.k.me⟩ : Sh.Ks)) (c' := (c4 (hv m.s) (kv (⟨m.k.ph, m.k.ep, m.k.mj, m.k.wk, false, m.k.pa, m.k.pf, m.k.ps, m.k.pc, m.k.me⟩ : Sh.Ks)) (hv noHs0) (kv noK0))) (show 4 < 10 by decide) rfl (all4 ⟨rfl, rfl, rfl, rfl⟩) rfl rfl rfl rfl rfl ?_; intro W5 h5; have S5 := Lib.hid h5; clear h5)
            | (refine w_int S5.out 1 (by decide) 7 1 (vs := kv (kv1 m.k)) (c' := (c4 (hv m.s) (kv (kv1 m.k)) (hv noHs0) (kv noK0))) (show 7 < 10 by decide) rfl (all4 ⟨rfl, rfl, rfl, rfl⟩) rfl rfl rfl rfl rfl ?_; intro W6 h6; have S7 := Lib.hid (Wn.swapk h6 (kv1 m.k)); clear h6))
          have KE := S7
          refine Sh.region_gen fun a0 ha0 => ?_
          have G2 : a0.tmps[2]? = some (.pointer (some ⟨w.heap.size, 0, none⟩)) := by rw [ha0]; rfl
          have G3 : a0.tmps[3]? = some (.pointer (some ⟨w.heap.size + 1, 0, none⟩)) := by rw [ha0]; rfl
          have G4 : a0.tmps[4]? = some (.pointer (some ⟨w.heap.size + 2, 0, none⟩)) := by rw [ha0]; rfl
          have G5 : a0.tmps[5]? = some (.pointer (some ⟨w.heap.size + 3, 0, none⟩)) := by rw [ha0]; rfl
          have TD : a0.defers = [] := congrArg Act.defers ha0
          have TZ : a0.tmps.size = 49 := by rw [ha0]; rfl
          clear ha0
          refine region_plan (by kernel_rfl) (by kernel_rfl) (by rw [TZ]; kernel_rfl) (fun (_ : Unit) (i : Nat) => (match i with | 0 => (.agg #[.slice (⟨m.s, (kv1 m.k), m.d, m.xs⟩ : Q2).s.w.a (⟨m.s, (kv1 m.k), m.d, m.xs⟩ : Q2).s.w.n (⟨m.s, (kv1 m.k), m.d, m.xs⟩ : Q2).s.w.c, .slice (⟨m.s, (kv1 m.k), m.d, m.xs⟩ : Q2).s.p.a (⟨m.s, (kv1 m.k), m.d, m.xs⟩ : Q2).s.p.n (⟨m.s, (kv1 m.k), m.d, m.xs⟩ : Q2).s.p.c, .slice ((⟨m.s, (kv1 m.k), m.d, m.xs⟩ : Q2).s.u 0).a ((⟨m.s, (kv1 m.k), m.d, m.xs⟩ : Q2).s.u 0).n ((⟨m.s, (kv1 m.k), m.d, m.xs⟩ : Q2).s.u 0).c, .slice ((⟨m.s, (kv1 m.k), m.d, m.xs⟩ : Q2).s.u 1).a ((⟨m.s, (kv1 m.k), m.d, m.xs⟩ : Q2).s.u 1).n ((⟨m.s, (kv1 m.k), m.d, m.xs⟩ : Q2).s.u 1).c, .slice ((⟨m.s, (kv1 m.k), m.d, m.xs⟩ : Q2).s.u 2).a ((⟨m.s, (kv1 m.k), m.d, m.xs⟩ : Q2).s.u 2).n ((⟨m.s, (kv1 m.k), m.d, m.xs⟩ : Q2).s.u 2).c, .slice (⟨m.s, (kv1 m.k), m.d, m.xs⟩ : Q2).s.c.a (⟨m.s, (kv1 m.k), m.d, m.xs⟩ : Q2).s.c.n (⟨m.s, (kv1 m.k), m.d, m.xs⟩ : Q2).s.c.c]) | 1 => (.agg #[.int .i64 (⟨m.s, (kv1 m.k), m.d, m.xs⟩ : Q2).k.ph, .int .i64 (⟨m.s, (kv1 m.k), m.d, m.xs⟩ : Q2).k.ep, .bool (⟨m.s, (kv1 m.k), m.d, m.xs⟩ : Q2).k.mj, .slice (⟨m.s, (kv1 m.k), m.d, m.xs⟩ : Q2).k.wk.a (⟨m.s, (kv1 m.k), m.d, m.xs⟩ : Q2).k.wk.n (⟨m.s, (kv1 m.k), m.d, m.xs⟩ : Q2).k.wk.c, .bool (⟨m.s, (kv1 m.k), m.d, m.xs⟩ : Q2).k.ov, .int .i64 (⟨m.s, (kv1 m.k), m.d, m.xs⟩ : Q2).k.pa, .int .i64 (⟨m.s, (kv1 m.k), m.d, m.xs⟩ : Q2).k.pf, .int .i64 (⟨m.s, (kv1 m.k), m.d, m.xs⟩ : Q2).k.ps, .int .i64 (⟨m.s, (kv1 m.k), m.d, m.xs⟩ : Q2).k.pc, .bool (⟨m.s, (kv1 m.k), m.d, m.xs⟩ : Q2).k.me]) | _ => undef : Value)) (fun _ l W => R4 w (p4 w.heap.size (w.heap.size + 1) (w.heap.size + 2) (w.heap.size + 3)) (⟨m.s, (kv1 m.k), m.d, m.xs⟩ : Q2) (⟨m.s, (kv1 m.k), m.d, m.xs⟩ : Q2).k 2 3 l W) () ?start ?step ?done
          case start => exact r4_start (KE.out.next ⟨rfl, rfl, rfl, Nat.le_refl _, fun _ _ => rfl⟩)
          case step =>
            rintro i o9 l a9 _ W9 ho hP hI hl haft K hK
            have hi : i < 4 := (Array.getElem?_eq_some_iff.1 ho).1
            rcases (show i = 0 ∨ i = 1 ∨ i = 2 ∨ i = 3 by omega) with rfl | rfl | rfl | rfl
            · obtain rfl := Option.some.inj ho
              have q9 := (hP.keep (j := 2) (by kernel_rfl)).trans G2
              exact p_load rfl (ev q9) (ldHb (show Box W9 (w.heap.size) (hv (⟨m.s, (kv1 m.k), m.d, m.xs⟩ : Q2).s) from hI.st.box 0 (by decide))) (hK () _ (fun _ _ => rfl) (hI.pure (by decide) (by decide)))
            · obtain rfl := Option.some.inj ho
              have q9 := (hP.keep (j := 3) (by kernel_rfl)).trans G3
              exact p_load rfl (ev q9) (ldKb (show Box W9 (w.heap.size + 1) (kv (⟨m.s, (kv1 m.k), m.d, m.xs⟩ : Q2).k) from hI.st.box 1 (by decide))) (hK () _ (fun _ _ => rfl) (hI.pure (by decide) (by decide)))
            · obtain rfl := Option.some.inj ho
              have e9 := hP.got 0 _ 47 rfl (haft ⟨0, .data⟩ (by simp) rfl) rfl
              try dsimp only at e9
              have q9 := (hP.keep (j := 4) (by kernel_rfl)).trans G4
              exact p_store rfl (ev q9) (ev e9) (stHb (show Box W9 (w.heap.size + 2) _ from hI.st.box 2 (by decide)) sel_h ((⟨m.s, (kv1 m.k), m.d, m.xs⟩ : Q2).s)) (hK () _ (fun _ _ => rfl) (hI.putH (by decide)))
            · obtain rfl := Option.some.inj ho
              have e9 := hP.got 1 _ 48 rfl (haft ⟨1, .data⟩ (by simp) rfl) rfl
              try dsimp only at e9
              have q9 := (hP.keep (j := 5) (by kernel_rfl)).trans G5
              exact p_store rfl (ev q9) (ev e9) (stKb (show Box W9 (w.heap.size + 3) _ from hI.st.box 3 (by decide)) sel_k ((⟨m.s, (kv1 m.k), m.d, m.xs⟩ : Q2).k)) (hK () _ (fun _ _ => rfl) (hI.putK (by decide)))
          case done =>
            rintro l a9 _ W9 hP hI hall
            have t4 := (hP.keep (j := 4) (by kernel_rfl)).trans G4
            have t5 := (hP.keep (j := 5) (by kernel_rfl)).trans G5
            have td := hP.df.trans TD
            have D9 := Lib.hid (hI.done (hall 2 (by decide)) (hall 3 (by decide)))
            clear hP hI hall
            go_wp2
            exact bodyPost_ret (resHK rfl t4 t5 (show Box W9 (w.heap.size + 2) (hv (⟨m.s, (kv1 m.k), m.d, m.xs⟩ : Q2).s) from D9.out.box 2 (by decide)) (show Box W9 (w.heap.size + 3) (kv (⟨m.s, (kv1 m.k), m.d, m.xs⟩ : Q2).k) from D9.out.box 3 (by decide))) td (by
        have E := st_of (m2 := (⟨m.s, (kv1 m.k), m.d, m.xs⟩ : Q2)) MD.out.2.2.2.1 MD.out.1 MD.out.2.1 MD.out.2.2.1 (lens_refl _) (by rw [HR.out]) (by rw [HR.out]) (by rw [HR.out]; rfl)
        exact ⟨(⟨m.s, (kv1 m.k), m.d, m.xs⟩ : Q2), rfl, E.1, E.2.1, E.2.2.1, E.2.2.2, D9.out.at _ (List.mem_singleton.2 rfl), ((show NewQ (w.heap.size + 4) (⟨m.s, (kv1 m.k), m.d, m.xs⟩ : Q2) from ⟨N2.out.h, N2.out.k⟩)).less (Nat.le_add_right _ _), D9.out.bel⟩)
        · rw [hw] at C2
          have HR := Lib.hid (HO.out.trans (show onR m.s m.d m.k m.xs = (⟨m.d, kend m.k, m.xs⟩ : R3) from (if_neg (by omega)).trans ((if_neg (by omega)).trans ((if_neg (by omega)).trans (if_neg (by omega))))))
          clear hw
          go_upto_region 5 with (first
            | (refine w_load (ldKb (show Box _ (w.heap.size + 1) (kv m.k) from S3.out.box 1 (by decide))) rfl rfl rfl rfl ?_)
            | ((go_at_call 71); (with_reducible refine (C2.out _).mono ?_); rintro e9 w9 ⟨rfl, hb9⟩; have S4 := Lib.hid (S3.out.next hb9); clear hb9))
          go_upto_region 14 with fail
          go_upto_region 15 with (first
            | (refine w_load (ldKb (show Box _ (w.heap.size + 1) (kv m.k) from S4.out.box 1 (by decide))) rfl rfl rfl rfl ?_)
            | ((go_at_call 75); (with_reducible refine (sweep_any m.k _).mono ?_); rintro e9 w9 ⟨rfl, hb9⟩; have S5 := Lib.hid (S4.out.next hb9); clear hb9)
            | (refine w_putK S5.out 1 (by decide) (kend m.k) (c' := (c4 (hv m.s) (kv (kend m.k)) (hv noHs0) (kv noK0))) rfl (all4 ⟨rfl, rfl, rfl, rfl⟩) rfl rfl rfl rfl rfl ?_; intro W6 h6; have S6 := Lib.hid h6; clear h6))
          have S7 := Lib.hid (Wn.swapk S6.out (kend m.k))
          have KE := S7
          refine Sh.region_gen fun a0 ha0 => ?_
          have G2 : a0.tmps[2]? = some (.pointer (some ⟨w.heap.size, 0, none⟩)) := by rw [ha0]; rfl
          have G3 : a0.tmps[3]? = some (.pointer (some ⟨w.heap.size + 1, 0, none⟩)) := by rw [ha0]; rfl
          have G4 : a0.tmps[4]? = some (.pointer (some ⟨w.heap.size + 2, 0, none⟩)) := by rw [ha0]; rfl
          have G5 : a0.tmps[5]? = some (.pointer (some ⟨w.heap.size + 3, 0, none⟩)) := by rw [ha0]; rfl
          have TD : a0.defers = [] := congrArg Act.defers ha0
          have TZ : a0.tmps.size = 49 := by rw [ha0]; rfl
          clear ha0
          refine region_plan (by kernel_rfl) (by kernel_rfl) (by rw [TZ]; kernel_rfl) (fun (_ : Unit) (i : Nat) => (match i with | 0 => (.agg #[.slice (⟨m.s, (kend m.k), m.d, m.xs⟩ : Q2).s.w.a (⟨m.s, (kend m.k), m.d, m.xs⟩ : Q2).s.w.n (⟨m.s, (kend m.k), m.d, m.xs⟩ : Q2).s.w.c, .slice (⟨m.s, (kend m.k), m.d, m.xs⟩ : Q2).s.p.a (⟨m.s, (kend m.k), m.d, m.xs⟩ : Q2).s.p.n (⟨m.s, (kend m.k), m.d, m.xs⟩ : Q2).s.p.c, .slice ((⟨m.s, (kend m.k), m.d, m.xs⟩ : Q2).s.u 0).a ((⟨m.s, (kend m.k), m.d, m.xs⟩ : Q2).s.u 0).n ((⟨m.s, (kend m.k), m.d, m.xs⟩ : Q2).s.u 0).c, .slice ((⟨m.s, (kend m.k), m.d, m.xs⟩ : Q2).s.u 1).a ((⟨m.s, (kend m.k), m.d, m.xs⟩ : Q2).s.u 1).n ((⟨m.s, (kend m.k), m.d, m.xs⟩ : Q2).s.u 1).c, .slice ((⟨m.s, (kend m.k), m.d, m.xs⟩ : Q2).s.u 2).a ((⟨m.s, (kend m.k), m.d, m.xs⟩ : Q2).s.u 2).n ((⟨m.s, (kend m.k), m.d, m.xs⟩ : Q2).s.u 2).c, .slice (⟨m.s, (kend m.k), m.d, m.xs⟩ : Q2).s.c.a (⟨m.s, (kend m.k), m.d, m.xs⟩ : Q2).s.c.n (⟨m.s, (kend m.k), m.d, m.xs⟩ : Q2).s.c.c]) | 1 => (.agg #[.int .i64 (⟨m.s, (kend m.k), m.d, m.xs⟩ : Q2).k.ph, .int .i64 (⟨m.s, (kend m.k), m.d, m.xs⟩ : Q2).k.ep, .bool (⟨m.s, (kend m.k), m.d, m.xs⟩ : Q2).k.mj, .slice (⟨m.s, (kend m.k), m.d, m.xs⟩ : Q2).k.wk.a (⟨m.s, (kend m.k), m.d, m.xs⟩ : Q2).k.wk.n (⟨m.s, (kend m.k), m.d, m.xs⟩ : Q2).k.wk.c, .bool (⟨m.s, (kend m.k), m.d, m.xs⟩ : Q2).k.ov, .int .i64 (⟨m.s, (kend m.k), m.d, m.xs⟩ : Q2).k.pa, .int .i64 (⟨m.s, (kend m.k), m.d, m.xs⟩ : Q2).k.pf, .int .i64 (⟨m.s, (kend m.k), m.d, m.xs⟩ : Q2).k.ps, .int .i64 (⟨m.s, (kend m.k), m.d, m.xs⟩ : Q2).k.pc, .bool (⟨m.s, (kend m.k), m.d, m.xs⟩ : Q2).k.me]) | _ => undef : Value)) (fun _ l W => R4 w (p4 w.heap.size (w.heap.size + 1) (w.heap.size + 2) (w.heap.size + 3)) (⟨m.s, (kend m.k), m.d, m.xs⟩ : Q2) (⟨m.s, (kend m.k), m.d, m.xs⟩ : Q2).k 2 3 l W) () ?start ?step ?done
          case start => exact r4_start (KE.out.next ⟨rfl, rfl, rfl, Nat.le_refl _, fun _ _ => rfl⟩)
          case step =>
            rintro i o9 l a9 _ W9 ho hP hI hl haft K hK
            have hi : i < 4 := (Array.getElem?_eq_some_iff.1 ho).1
            rcases (show i = 0 ∨ i = 1 ∨ i = 2 ∨ i = 3 by omega) with rfl | rfl | rfl | rfl
            · obtain rfl := Option.some.inj ho
              have q9 := (hP.keep (j := 2) (by kernel_rfl)).trans G2
              exact p_load rfl (ev q9) (ldHb (show Box W9 (w.heap.size) (hv (⟨m.s, (kend m.k), m.d, m.xs⟩ : Q2).s) from hI.st.box 0 (by decide))) (hK () _ (fun _ _ => rfl) (hI.pure (by decide) (by decide)))
            · obtain rfl := Option.some.inj ho
              have q9 := (hP.keep (j := 3) (by kernel_rfl)).trans G3
              exact p_load rfl (ev q9) (ldKb (show Box W9 (w.heap.size + 1) (kv (⟨m.s, (kend m.k), m.d, m.xs⟩ : Q2).k) from hI.st.box 1 (by decide))) (hK () _ (fun _ _ => rfl) (hI.pure (by decide) (by decide)))
            · obtain rfl := Option.some.inj ho
              have e9 := hP.got 0 _ 47 rfl (haft ⟨0, .data⟩ (by simp) rfl) rfl
              try dsimp only at e9
              have q9 := (hP.keep (j := 4) (by kernel_rfl)).trans G4
              exact p_store rfl (ev q9) (ev e9) (stHb (show Box W9 (w.heap.size + 2) _ from hI.st.box 2 (by decide)) sel_h ((⟨m.s, (kend m.k), m.d, m.xs⟩ : Q2).s)) (hK () _ (fun _ _ => rfl) (hI.putH (by decide)))
            · obtain rfl := Option.some.inj ho
              have e9 := hP.got 1 _ 48 rfl (haft ⟨1, .data⟩ (by simp) rfl) rfl
              try dsimp only at e9
              have q9 := (hP.keep (j := 5) (by kernel_rfl)).trans G5
              exact p_store rfl (ev q9) (ev e9) (stKb (show Box W9 (w.heap.size + 3) _ from hI.st.box 3 (by decide)) sel_k ((⟨m.s, (kend m.k), m.d, m.xs⟩ : Q2).k)) (hK () _ (fun _ _ => rfl) (hI.putK (by decide)))
          case done =>
            rintro l a9 _ W9 hP hI hall
            have t4 := (hP.keep (j := 4) (by kernel_rfl)).trans G4
            have t5 := (hP.keep (j := 5) (by kernel_rfl)).trans G5
            have td := hP.df.trans TD
            have D9 := Lib.hid (hI.done (hall 2 (by decide)) (hall 3 (by decide)))
            clear hP hI hall
            go_wp2
            exact bodyPost_ret (resHK rfl t4 t5 (show Box W9 (w.heap.size + 2) (hv (⟨m.s, (kend m.k), m.d, m.xs⟩ : Q2).s) from D9.out.box 2 (by decide)) (show Box W9 (w.heap.size + 3) (kv (⟨m.s, (kend m.k), m.d, m.xs⟩ : Q2).k) from D9.out.box 3 (by decide))) td (by
        have E := st_of (m2 := (⟨m.s, (kend m.k), m.d, m.xs⟩ : Q2)) MD.out.2.2.2.1 MD.out.1 MD.out.2.1 MD.out.2.2.1 (lens_refl _) (by rw [HR.out]) (by rw [HR.out]) (by rw [HR.out]; rfl)
        exact ⟨(⟨m.s, (kend m.k), m.d, m.xs⟩ : Q2), rfl, E.1, E.2.1, E.2.2.1, E.2.2.2, D9.out.at _ (List.mem_singleton.2 rfl), ((show NewQ (w.heap.size + 4) (⟨m.s, (kend m.k), m.d, m.xs⟩ : Q2) from ⟨N2.out.h, N2.out.k⟩)).less (Nat.le_add_right _ _), D9.out.bel⟩)
end Go.Proofs.YtccjelpfmkbmiaaGreatDoor.Tr
