/-
  Package trace: shadeField.
-/
import Derived.Test.YtccjelpfmkbmiaaGreatDoorHpXJ
namespace Go.Proofs.YtccjelpfmkbmiaaGreatDoor.Tr
open Go.Proofs.YtccjelpfmkbmiaaGreatDoor Go.Proofs.YtccjelpfmkbmiaaGreatDoor.Rt
open Go.RowKit
open Go.Proofs.YtccjelpfmkbmiaaGreatDoor.Mu (hv kv w_load w_store w_loadg ldHb ldKb stHb stKb st_int ld_int p_load p_store ev region_plan noHs0 noK0)
set_option maxRecDepth 100000

set_option maxHeartbeats 1000000 in
theorem field_low (n : Q2) (w : World) (hn : Hold w n) (hz : Cl.Sz w) (hf : Fine n.s n.d) (h : n.k.pf < 0) : Calls Tryz.prog 72 #[(.agg #[.slice n.s.w.a n.s.w.n n.s.w.c, .slice n.s.p.a n.s.p.n n.s.p.c, .slice (n.s.u 0).a (n.s.u 0).n (n.s.u 0).c, .slice (n.s.u 1).a (n.s.u 1).n (n.s.u 1).c, .slice (n.s.u 2).a (n.s.u 2).n (n.s.u 2).c, .slice n.s.c.a n.s.c.n n.s.c.c]), (.agg #[.int .i64 n.k.ph, .int .i64 n.k.ep, .bool n.k.mj, .slice n.k.wk.a n.k.wk.n n.k.wk.c, .bool n.k.ov, .int .i64 n.k.pa, .int .i64 n.k.pf, .int .i64 n.k.ps, .int .i64 n.k.pc, .bool n.k.me])] w (StOut w n (fieldR n.s n.d n.k n.xs)) := by
  have HN := Lib.hid hn
  have HZ := Lib.hid hz
  have HF := Lib.hid hf
  have HR : Hid (fieldR n.s n.d n.k n.xs = ⟨n.d, kp n.k 0 0, n.xs⟩) := Lib.hid (if_pos (by omega))
  have C1 := Lib.hid (fun W (hW : Hold W n) (hz : Cl.Sz W) => fields_any n W hW hz hf)
  generalize fldN n.s n.d n.k = N at C1 h
  have c1 : decide (n.k.pf < 0) = true := decide_eq_true h
  clear hn hz hf h
  go_enter Tryz.func72, Tryz.ntmps72
  go_upto_region 1 with fail
  obtain ⟨W1, hW1⟩ : ∃ W1, W1 = ((((w.alloc (.cells #[.slice n.s.w.a n.s.w.n n.s.w.c, .slice n.s.p.a n.s.p.n n.s.p.c, .slice (n.s.u 0).a (n.s.u 0).n (n.s.u 0).c, .slice (n.s.u 1).a (n.s.u 1).n (n.s.u 1).c, .slice (n.s.u 2).a (n.s.u 2).n (n.s.u 2).c, .slice n.s.c.a n.s.c.n n.s.c.c] 28)).alloc (.cells #[.int .i64 n.k.ph, .int .i64 n.k.ep, .bool n.k.mj, .slice n.k.wk.a n.k.wk.n n.k.wk.c, .bool n.k.ov, .int .i64 n.k.pa, .int .i64 n.k.pf, .int .i64 n.k.ps, .int .i64 n.k.pc, .bool n.k.me] 30)).alloc (.cells #[.slice none 0 0, .slice none 0 0, .slice none 0 0, .slice none 0 0, .slice none 0 0, .slice none 0 0] 28)).alloc (.cells #[.int .i64 0, .int .i64 0, .bool false, .slice none 0 0, .bool false, .int .i64 0, .int .i64 0, .int .i64 0, .int .i64 0, .bool false] 30)) := ⟨_, rfl⟩
  have S1 : Hid (Wn 4 w W1 (p4 w.heap.size (w.heap.size + 1) (w.heap.size + 2) (w.heap.size + 3)) (c4 (hv n.s) (kv n.k) (hv noHs0) (kv noK0)) [n]) := Lib.hid (by
    rw [hW1]
    exact (wn_of (c := (c4 (hv n.s) (kv n.k) (hv noHs0) (kv noK0))) (((((lay_none w).add (hv n.s) 28).add (kv n.k) 30).add (hv noHs0) 28).add (kv noK0) 30) (by decide) (all4 ⟨rfl, rfl, rfl, rfl⟩)).old HN.out)
  rw [← hW1]
  clear hW1
  go_upto_region 2 with (first
    | (refine w_load (ldHb (show Box _ (w.heap.size) (hv n.s) from S1.out.box 0 (by decide))) rfl rfl rfl rfl ?_)
    | (refine w_load (ldKb (show Box _ (w.heap.size + 1) (kv n.k) from S1.out.box 1 (by decide))) rfl rfl rfl rfl ?_)
    | ((go_at_call 112); (with_reducible refine (C1.out _ (S1.out.at n (by simp)) (S1.out.over HZ.out)).mono ?_); rintro e9 w9 ⟨rfl, hb9⟩; have S2 := Lib.hid (S1.out.next hb9); clear hb9))
  have q6 := (show Box _ (w.heap.size + 1) (kv n.k) from S2.out.box 1 (by decide)).cel 6 (.int .i64 n.k.pf) rfl
  go_upto_region 3 with fail
  clear q6
  have KE := S2
  refine Sh.region_gen fun a0 ha0 => ?_
  have G2 : a0.tmps[2]? = some (.pointer (some ⟨w.heap.size, 0, none⟩)) := by rw [ha0]; rfl
  have G3 : a0.tmps[3]? = some (.pointer (some ⟨w.heap.size + 1, 0, none⟩)) := by rw [ha0]; rfl
  have G4 : a0.tmps[4]? = some (.pointer (some ⟨w.heap.size + 2, 0, none⟩)) := by rw [ha0]; rfl
  have G5 : a0.tmps[5]? = some (.pointer (some ⟨w.heap.size + 3, 0, none⟩)) := by rw [ha0]; rfl
  have TD : a0.defers = [] := congrArg Act.defers ha0
  have TZ : a0.tmps.size = 63 := by rw [ha0]; rfl
  clear ha0
  refine region_plan (by kernel_rfl) (by kernel_rfl) (by rw [TZ]; kernel_rfl) (fun (_ : Unit) (i : Nat) => (match i with | 0 => (.agg #[.slice n.s.w.a n.s.w.n n.s.w.c, .slice n.s.p.a n.s.p.n n.s.p.c, .slice (n.s.u 0).a (n.s.u 0).n (n.s.u 0).c, .slice (n.s.u 1).a (n.s.u 1).n (n.s.u 1).c, .slice (n.s.u 2).a (n.s.u 2).n (n.s.u 2).c, .slice n.s.c.a n.s.c.n n.s.c.c]) | 1 => (.agg #[.int .i64 n.k.ph, .int .i64 n.k.ep, .bool n.k.mj, .slice n.k.wk.a n.k.wk.n n.k.wk.c, .bool n.k.ov, .int .i64 n.k.pa, .int .i64 n.k.pf, .int .i64 n.k.ps, .int .i64 n.k.pc, .bool n.k.me]) | 2 => (.agg #[.int .i64 (kp n.k 0 0).ph, .int .i64 (kp n.k 0 0).ep, .bool (kp n.k 0 0).mj, .slice (kp n.k 0 0).wk.a (kp n.k 0 0).wk.n (kp n.k 0 0).wk.c, .bool (kp n.k 0 0).ov, .int .i64 (kp n.k 0 0).pa, .int .i64 (kp n.k 0 0).pf, .int .i64 (kp n.k 0 0).ps, .int .i64 (kp n.k 0 0).pc, .bool (kp n.k 0 0).me]) | _ => undef : Value)) (fun _ l W => R4 w (p4 w.heap.size (w.heap.size + 1) (w.heap.size + 2) (w.heap.size + 3)) n (kp n.k 0 0) 3 4 l W) () ?start ?step ?done
  case start => exact r4_start (KE.out.next ⟨rfl, rfl, rfl, Nat.le_refl _, fun _ _ => rfl⟩)
  case step =>
    rintro i o9 l a9 _ W9 ho hP hI hl haft K hK
    have hi : i < 5 := (Array.getElem?_eq_some_iff.1 ho).1
    rcases (show i = 0 ∨ i = 1 ∨ i = 2 ∨ i = 3 ∨ i = 4 by omega) with rfl | rfl | rfl | rfl | rfl
    · obtain rfl := Option.some.inj ho
      have q9 := (hP.keep (j := 2) (by kernel_rfl)).trans G2
      exact p_load rfl (ev q9) (ldHb (show Box W9 (w.heap.size) (hv n.s) from hI.st.box 0 (by decide))) (hK () _ (fun _ _ => rfl) (hI.pure (by decide) (by decide)))
    · obtain rfl := Option.some.inj ho
      have q9 := (hP.keep (j := 3) (by kernel_rfl)).trans G3
      exact p_load rfl (ev q9) (ldKb (show Box W9 (w.heap.size + 1) (kv n.k) from hI.st.box 1 (by decide))) (hK () _ (fun _ _ => rfl) (hI.pure (by decide) (by decide)))
    · obtain rfl := Option.some.inj ho
      have e9 := hP.got 1 _ 22 rfl (haft ⟨1, .data⟩ (by simp) rfl) rfl
      try dsimp only at e9
      go_simp
      refine (leave_any n.k _).mono ?_
      rintro e9 w9 ⟨rfl, hb9⟩
      exact hK () _ (fun _ _ => rfl) ((hI.next hb9).pure (by decide) (by decide))
    · obtain rfl := Option.some.inj ho
      have e9 := hP.got 0 _ 21 rfl (haft ⟨0, .data⟩ (by simp) rfl) rfl
      try dsimp only at e9
      have q9 := (hP.keep (j := 4) (by kernel_rfl)).trans G4
      exact p_store rfl (ev q9) (ev e9) (stHb (show Box W9 (w.heap.size + 2) _ from hI.st.box 2 (by decide)) sel_h (n.s)) (hK () _ (fun _ _ => rfl) (hI.putH (by decide)))
    · obtain rfl := Option.some.inj ho
      have e9 := hP.got 2 _ 23 rfl (haft ⟨2, .data⟩ (by simp) rfl) rfl
      try dsimp only at e9
      have q9 := (hP.keep (j := 5) (by kernel_rfl)).trans G5
      exact p_store rfl (ev q9) (ev e9) (stKb (show Box W9 (w.heap.size + 3) _ from hI.st.box 3 (by decide)) sel_k ((kp n.k 0 0))) (hK () _ (fun _ _ => rfl) (hI.putK (by decide)))
  case done =>
    rintro l a9 _ W9 hP hI hall
    have t4 := (hP.keep (j := 4) (by kernel_rfl)).trans G4
    have t5 := (hP.keep (j := 5) (by kernel_rfl)).trans G5
    have td := hP.df.trans TD
    have D9 := Lib.hid (hI.done (hall 3 (by decide)) (hall 4 (by decide)))
    clear hP hI hall
    go_wp2
    exact bodyPost_ret (resHK rfl t4 t5 (show Box W9 (w.heap.size + 2) (hv n.s) from D9.out.box 2 (by decide)) (show Box W9 (w.heap.size + 3) (kv (kp n.k 0 0)) from D9.out.box 3 (by decide))) td ⟨⟨n.s, kp n.k 0 0, n.d, n.xs⟩, rfl, lens_refl _, by rw [HR.out], by rw [HR.out], by rw [HR.out]; rfl, ⟨(D9.out.at n (by simp)).h, (D9.out.at n (by simp)).c⟩, fun B _ hB => ⟨hB.h, hB.k⟩, D9.out.bel⟩
set_option maxHeartbeats 1000000 in
theorem field_high (n : Q2) (w : World) (hn : Hold w n) (hz : Cl.Sz w) (hf : Fine n.s n.d) (h : ¬ n.k.pf < 0 ∧ fldN n.s n.d n.k ≤ n.k.pf) : Calls Tryz.prog 72 #[(.agg #[.slice n.s.w.a n.s.w.n n.s.w.c, .slice n.s.p.a n.s.p.n n.s.p.c, .slice (n.s.u 0).a (n.s.u 0).n (n.s.u 0).c, .slice (n.s.u 1).a (n.s.u 1).n (n.s.u 1).c, .slice (n.s.u 2).a (n.s.u 2).n (n.s.u 2).c, .slice n.s.c.a n.s.c.n n.s.c.c]), (.agg #[.int .i64 n.k.ph, .int .i64 n.k.ep, .bool n.k.mj, .slice n.k.wk.a n.k.wk.n n.k.wk.c, .bool n.k.ov, .int .i64 n.k.pa, .int .i64 n.k.pf, .int .i64 n.k.ps, .int .i64 n.k.pc, .bool n.k.me])] w (StOut w n (fieldR n.s n.d n.k n.xs)) := by
  have HN := Lib.hid hn
  have HZ := Lib.hid hz
  have HF := Lib.hid hf
  have HR : Hid (fieldR n.s n.d n.k n.xs = ⟨n.d, kp n.k 0 0, n.xs⟩) := Lib.hid (if_pos (by omega))
  have C1 := Lib.hid (fun W (hW : Hold W n) (hz : Cl.Sz W) => fields_any n W hW hz hf)
  generalize fldN n.s n.d n.k = N at C1 h
  have c1 : decide (n.k.pf < 0) = false := decide_eq_false h.1
  have c2 : decide (N ≤ n.k.pf) = true := decide_eq_true h.2
  have c3 : decide (n.k.pf ≥ N) = true := c2
  clear hn hz hf h
  go_enter Tryz.func72, Tryz.ntmps72
  go_upto_region 1 with fail
  obtain ⟨W1, hW1⟩ : ∃ W1, W1 = ((((w.alloc (.cells #[.slice n.s.w.a n.s.w.n n.s.w.c, .slice n.s.p.a n.s.p.n n.s.p.c, .slice (n.s.u 0).a (n.s.u 0).n (n.s.u 0).c, .slice (n.s.u 1).a (n.s.u 1).n (n.s.u 1).c, .slice (n.s.u 2).a (n.s.u 2).n (n.s.u 2).c, .slice n.s.c.a n.s.c.n n.s.c.c] 28)).alloc (.cells #[.int .i64 n.k.ph, .int .i64 n.k.ep, .bool n.k.mj, .slice n.k.wk.a n.k.wk.n n.k.wk.c, .bool n.k.ov, .int .i64 n.k.pa, .int .i64 n.k.pf, .int .i64 n.k.ps, .int .i64 n.k.pc, .bool n.k.me] 30)).alloc (.cells #[.slice none 0 0, .slice none 0 0, .slice none 0 0, .slice none 0 0, .slice none 0 0, .slice none 0 0] 28)).alloc (.cells #[.int .i64 0, .int .i64 0, .bool false, .slice none 0 0, .bool false, .int .i64 0, .int .i64 0, .int .i64 0, .int .i64 0, .bool false] 30)) := ⟨_, rfl⟩
  have S1 : Hid (Wn 4 w W1 (p4 w.heap.size (w.heap.size + 1) (w.heap.size + 2) (w.heap.size + 3)) (c4 (hv n.s) (kv n.k) (hv noHs0) (kv noK0)) [n]) := Lib.hid (by
    rw [hW1]
    exact (wn_of (c := (c4 (hv n.s) (kv n.k) (hv noHs0) (kv noK0))) (((((lay_none w).add (hv n.s) 28).add (kv n.k) 30).add (hv noHs0) 28).add (kv noK0) 30) (by decide) (all4 ⟨rfl, rfl, rfl, rfl⟩)).old HN.out)
  rw [← hW1]
  clear hW1
  go_upto_region 2 with (first
    | (refine w_load (ldHb (show Box _ (w.heap.size) (hv n.s) from S1.out.box 0 (by decide))) rfl rfl rfl rfl ?_)
    | (refine w_load (ldKb (show Box _ (w.heap.size + 1) (kv n.k) from S1.out.box 1 (by decide))) rfl rfl rfl rfl ?_)
    | ((go_at_call 112); (with_reducible refine (C1.out _ (S1.out.at n (by simp)) (S1.out.over HZ.out)).mono ?_); rintro e9 w9 ⟨rfl, hb9⟩; have S2 := Lib.hid (S1.out.next hb9); clear hb9))
  have q6 := (show Box _ (w.heap.size + 1) (kv n.k) from S2.out.box 1 (by decide)).cel 6 (.int .i64 n.k.pf) rfl
  go_upto_region 3 with fail
  clear q6
  have KE := S2
  refine Sh.region_gen fun a0 ha0 => ?_
  have G2 : a0.tmps[2]? = some (.pointer (some ⟨w.heap.size, 0, none⟩)) := by rw [ha0]; rfl
  have G3 : a0.tmps[3]? = some (.pointer (some ⟨w.heap.size + 1, 0, none⟩)) := by rw [ha0]; rfl
  have G4 : a0.tmps[4]? = some (.pointer (some ⟨w.heap.size + 2, 0, none⟩)) := by rw [ha0]; rfl
  have G5 : a0.tmps[5]? = some (.pointer (some ⟨w.heap.size + 3, 0, none⟩)) := by rw [ha0]; rfl
  have TD : a0.defers = [] := congrArg Act.defers ha0
  have TZ : a0.tmps.size = 63 := by rw [ha0]; rfl
  clear ha0
  refine region_plan (by kernel_rfl) (by kernel_rfl) (by rw [TZ]; kernel_rfl) (fun (_ : Unit) (i : Nat) => (match i with | 0 => (.agg #[.slice n.s.w.a n.s.w.n n.s.w.c, .slice n.s.p.a n.s.p.n n.s.p.c, .slice (n.s.u 0).a (n.s.u 0).n (n.s.u 0).c, .slice (n.s.u 1).a (n.s.u 1).n (n.s.u 1).c, .slice (n.s.u 2).a (n.s.u 2).n (n.s.u 2).c, .slice n.s.c.a n.s.c.n n.s.c.c]) | 1 => (.agg #[.int .i64 n.k.ph, .int .i64 n.k.ep, .bool n.k.mj, .slice n.k.wk.a n.k.wk.n n.k.wk.c, .bool n.k.ov, .int .i64 n.k.pa, .int .i64 n.k.pf, .int .i64 n.k.ps, .int .i64 n.k.pc, .bool n.k.me]) | 2 => (.agg #[.int .i64 (kp n.k 0 0).ph, .int .i64 (kp n.k 0 0).ep, .bool (kp n.k 0 0).mj, .slice (kp n.k 0 0).wk.a (kp n.k 0 0).wk.n (kp n.k 0 0).wk.c, .bool (kp n.k 0 0).ov, .int .i64 (kp n.k 0 0).pa, .int .i64 (kp n.k 0 0).pf, .int .i64 (kp n.k 0 0).ps, .int .i64 (kp n.k 0 0).pc, .bool (kp n.k 0 0).me]) | _ => undef : Value)) (fun _ l W => R4 w (p4 w.heap.size (w.heap.size + 1) (w.heap.size + 2) (w.heap.size + 3)) n (kp n.k 0 0) 3 4 l W) () ?start ?step ?done
  case start => exact r4_start (KE.out.next ⟨rfl, rfl, rfl, Nat.le_refl _, fun _ _ => rfl⟩)
  case step =>
    rintro i o9 l a9 _ W9 ho hP hI hl haft K hK
    have hi : i < 5 := (Array.getElem?_eq_some_iff.1 ho).1
    rcases (show i = 0 ∨ i = 1 ∨ i = 2 ∨ i = 3 ∨ i = 4 by omega) with rfl | rfl | rfl | rfl | rfl
    · obtain rfl := Option.some.inj ho
      have q9 := (hP.keep (j := 2) (by kernel_rfl)).trans G2
      exact p_load rfl (ev q9) (ldHb (show Box W9 (w.heap.size) (hv n.s) from hI.st.box 0 (by decide))) (hK () _ (fun _ _ => rfl) (hI.pure (by decide) (by decide)))
    · obtain rfl := Option.some.inj ho
      have q9 := (hP.keep (j := 3) (by kernel_rfl)).trans G3
      exact p_load rfl (ev q9) (ldKb (show Box W9 (w.heap.size + 1) (kv n.k) from hI.st.box 1 (by decide))) (hK () _ (fun _ _ => rfl) (hI.pure (by decide) (by decide)))
    · obtain rfl := Option.some.inj ho
      have e9 := hP.got 1 _ 22 rfl (haft ⟨1, .data⟩ (by simp) rfl) rfl
      try dsimp only at e9
      go_simp
      refine (leave_any n.k _).mono ?_
      rintro e9 w9 ⟨rfl, hb9⟩
      exact hK () _ (fun _ _ => rfl) ((hI.next hb9).pure (by decide) (by decide))
    · obtain rfl := Option.some.inj ho
      have e9 := hP.got 0 _ 21 rfl (haft ⟨0, .data⟩ (by simp) rfl) rfl
      try dsimp only at e9
      have q9 := (hP.keep (j := 4) (by kernel_rfl)).trans G4
      exact p_store rfl (ev q9) (ev e9) (stHb (show Box W9 (w.heap.size + 2) _ from hI.st.box 2 (by decide)) sel_h (n.s)) (hK () _ (fun _ _ => rfl) (hI.putH (by decide)))
    · obtain rfl := Option.some.inj ho
      have e9 := hP.got 2 _ 23 rfl (haft ⟨2, .data⟩ (by simp) rfl) rfl
      try dsimp only at e9
      have q9 := (hP.keep (j := 5) (by kernel_rfl)).trans G5
      exact p_store rfl (ev q9) (ev e9) (stKb (show Box W9 (w.heap.size + 3) _ from hI.st.box 3 (by decide)) sel_k ((kp n.k 0 0))) (hK () _ (fun _ _ => rfl) (hI.putK (by decide)))
  case done =>
    rintro l a9 _ W9 hP hI hall
    have t4 := (hP.keep (j := 4) (by kernel_rfl)).trans G4
    have t5 := (hP.keep (j := 5) (by kernel_rfl)).trans G5
    have td := hP.df.trans TD
    have D9 := Lib.hid (hI.done (hall 3 (by decide)) (hall 4 (by decide)))
    clear hP hI hall
    go_wp2
    exact bodyPost_ret (resHK rfl t4 t5 (show Box W9 (w.heap.size + 2) (hv n.s) from D9.out.box 2 (by decide)) (show Box W9 (w.heap.size + 3) (kv (kp n.k 0 0)) from D9.out.box 3 (by decide))) td ⟨⟨n.s, kp n.k 0 0, n.d, n.xs⟩, rfl, lens_refl _, by rw [HR.out], by rw [HR.out], by rw [HR.out]; rfl, ⟨(D9.out.at n (by simp)).h, (D9.out.at n (by simp)).c⟩, fun B _ hB => ⟨hB.h, hB.k⟩, D9.out.bel⟩
set_option maxHeartbeats 2000000 in
theorem field_mid (n : Q2) (w : World) (hn : Hold w n) (hz : Cl.Sz w) (hf : Fine n.s n.d) (hx : n.xs.length ≤ 999000) (h0 : 0 ≤ n.k.pf) (h1 : n.k.pf < fldN n.s n.d n.k) (h2 : ¬ n.k.pf + 1 = fldN n.s n.d n.k) : Calls Tryz.prog 72 #[(.agg #[.slice n.s.w.a n.s.w.n n.s.w.c, .slice n.s.p.a n.s.p.n n.s.p.c, .slice (n.s.u 0).a (n.s.u 0).n (n.s.u 0).c, .slice (n.s.u 1).a (n.s.u 1).n (n.s.u 1).c, .slice (n.s.u 2).a (n.s.u 2).n (n.s.u 2).c, .slice n.s.c.a n.s.c.n n.s.c.c]), (.agg #[.int .i64 n.k.ph, .int .i64 n.k.ep, .bool n.k.mj, .slice n.k.wk.a n.k.wk.n n.k.wk.c, .bool n.k.ov, .int .i64 n.k.pa, .int .i64 n.k.pf, .int .i64 n.k.ps, .int .i64 n.k.pc, .bool n.k.me])] w (StOut w n (fieldR n.s n.d n.k n.xs)) := by
  have HN := Lib.hid hn
  have HZ := Lib.hid hz
  have HF := Lib.hid hf
  have hg : Sh.isC n.s n.d n.k.mj n.k.ep n.k.pa 2 = true := Classical.byContradiction fun hh => by
    have : fldN n.s n.d n.k = 0 := if_neg hh
    omega
  have hN : fldN n.s n.d n.k = nOf (wd n.d n.k.pa) := if_pos hg
  obtain ⟨f0, f1, f2, f3, _, _⟩ := fld_in (Sh.isC_iff.1 hg).2.1
  have hwn := hf.wn
  obtain ⟨v, hv⟩ : ∃ v, v = fldV n.d n.k := ⟨_, rfl⟩
  have HR := Lib.hid (show fieldR n.s n.d n.k n.xs = (⟨Sh.shD n.s n.d n.k.mj n.k.ep (fldV n.d n.k), kp (Sh.kw n.k n.k.wk (Sh.shO (white n.s n.d n.k (fldV n.d n.k)) n.xs n.k.ov)) n.k.pa (n.k.pf + 1), Sh.shX (white n.s n.d n.k (fldV n.d n.k)) n.xs (fldV n.d n.k)⟩ : R3) from (if_neg (by omega)).trans (if_neg h2))
  have CG := Lib.hid (fun W (hW : Hold W n) => Ar.get_ok W.heap.size n.s.w.a n.s.w.n n.s.w.c n.d.ws (n.k.pa + 1 + n.k.pf) W f3 (by omega) (by omega) hW.h.words)
  rw [show n.d.ws.getD ((n.k.pa + 1 + n.k.pf) - 16).toNat 0 = v from hv.symm] at CG
  rw [← hv] at HR
  have C1 := Lib.hid (fun W (hW : Hold W n) (hz : Cl.Sz W) => fields_any n W hW hz hf)
  have C2 := Lib.hid (fun W (hW : Hold W n) (hz : Cl.Sz W) => Sh.shade_any n.s n.d n.k n.xs v W (by omega) hW.h hW.c hz hf)
  have e1 : IntKind.i64.wrap (n.k.pa + 1) = n.k.pa + 1 := IntWalk.i64_in _ (by omega)
  have e2 : IntKind.i64.wrap (n.k.pa + 1 + n.k.pf) = n.k.pa + 1 + n.k.pf := IntWalk.i64_in _ (by omega)
  have e3 : IntKind.i64.wrap (n.k.pf + 1) = n.k.pf + 1 := IntWalk.i64_in _ (by omega)
  have c1 : decide (n.k.pf < 0) = false := decide_eq_false (by omega)
  have c2 : decide (fldN n.s n.d n.k ≤ n.k.pf) = false := decide_eq_false (by omega)
  have c3 : decide (n.k.pf ≥ fldN n.s n.d n.k) = false := c2
  have c4' : decide (n.k.pf + 1 = fldN n.s n.d n.k) = false := decide_eq_false h2
  have c5 : (n.k.pf + 1 == fldN n.s n.d n.k) = false := c4'
  have HG := Lib.hid hg
  have HLN := Lib.hid hn.h.words.1
  generalize fldN n.s n.d n.k = N at C1 c2 c3 c4' c5 h1 h2 hN
  clear hn hz hf h0 h1 h2 hN hg f0 f1 f2 f3 hwn hv hx
  go_enter Tryz.func72, Tryz.ntmps72
  go_upto_region 1 with fail
  obtain ⟨W1, hW1⟩ : ∃ W1, W1 = ((((w.alloc (.cells #[.slice n.s.w.a n.s.w.n n.s.w.c, .slice n.s.p.a n.s.p.n n.s.p.c, .slice (n.s.u 0).a (n.s.u 0).n (n.s.u 0).c, .slice (n.s.u 1).a (n.s.u 1).n (n.s.u 1).c, .slice (n.s.u 2).a (n.s.u 2).n (n.s.u 2).c, .slice n.s.c.a n.s.c.n n.s.c.c] 28)).alloc (.cells #[.int .i64 n.k.ph, .int .i64 n.k.ep, .bool n.k.mj, .slice n.k.wk.a n.k.wk.n n.k.wk.c, .bool n.k.ov, .int .i64 n.k.pa, .int .i64 n.k.pf, .int .i64 n.k.ps, .int .i64 n.k.pc, .bool n.k.me] 30)).alloc (.cells #[.slice none 0 0, .slice none 0 0, .slice none 0 0, .slice none 0 0, .slice none 0 0, .slice none 0 0] 28)).alloc (.cells #[.int .i64 0, .int .i64 0, .bool false, .slice none 0 0, .bool false, .int .i64 0, .int .i64 0, .int .i64 0, .int .i64 0, .bool false] 30)) := ⟨_, rfl⟩
  have S1 : Hid (Wn 4 w W1 (p4 w.heap.size (w.heap.size + 1) (w.heap.size + 2) (w.heap.size + 3)) (c4 (hv n.s) (kv n.k) (hv noHs0) (kv noK0)) [n]) := Lib.hid (by
    rw [hW1]
    exact (wn_of (c := (c4 (hv n.s) (kv n.k) (hv noHs0) (kv noK0))) (((((lay_none w).add (hv n.s) 28).add (kv n.k) 30).add (hv noHs0) 28).add (kv noK0) 30) (by decide) (all4 ⟨rfl, rfl, rfl, rfl⟩)).old HN.out)
  rw [← hW1]
  clear hW1
  go_upto_region 2 with (first
    | (refine w_load (ldHb (show Box _ (w.heap.size) (hv n.s) from S1.out.box 0 (by decide))) rfl rfl rfl rfl ?_)
    | (refine w_load (ldKb (show Box _ (w.heap.size + 1) (kv n.k) from S1.out.box 1 (by decide))) rfl rfl rfl rfl ?_)
    | ((go_at_call 112); (with_reducible refine (C1.out _ (S1.out.at n (by simp)) (S1.out.over HZ.out)).mono ?_); rintro e9 w9 ⟨rfl, hb9⟩; have S2 := Lib.hid (S1.out.next hb9); clear hb9))
  have q6 := (show Box _ (w.heap.size + 1) (kv n.k) from S2.out.box 1 (by decide)).cel 6 (.int .i64 n.k.pf) rfl
  go_upto_region 4 with fail
  clear q6
  have r0 := (show Box _ (w.heap.size) (hv n.s) from S2.out.box 0 (by decide)).cel 0 (.slice n.s.w.a n.s.w.n n.s.w.c) rfl
  have q5 := (show Box _ (w.heap.size + 1) (kv n.k) from S2.out.box 1 (by decide)).cel 5 (.int .i64 n.k.pa) rfl
  have q6 := (show Box _ (w.heap.size + 1) (kv n.k) from S2.out.box 1 (by decide)).cel 6 (.int .i64 n.k.pf) rfl
  go_upto_region 5 with ((go_at_call 69); (with_reducible refine (CG.out _ (S2.out.at n (by simp))).mono ?_); rintro e9 w9 ⟨rfl, rfl⟩)
  clear r0 q5 q6
  go_upto_region 6 with (first
    | (refine w_load (ldHb (show Box _ (w.heap.size) (hv n.s) from S2.out.box 0 (by decide))) rfl rfl rfl rfl ?_)
    | (refine w_load (ldKb (show Box _ (w.heap.size + 1) (kv n.k) from S2.out.box 1 (by decide))) rfl rfl rfl rfl ?_)
    | ((go_at_call 60); (with_reducible refine (C2.out _ (S2.out.at n (by simp)) (S2.out.over HZ.out)).mono ?_); rintro e9 w9 ⟨s', u, rfl, hp9, hl9, hn9, ha9⟩; have S3 := Lib.hid (sh_next S2.out hp9 hn9 ha9); have N3 := Lib.hid (sh_new S2.out hl9 hn9 ha9); clear hp9 hl9 hn9 ha9)
    | (refine w_putH S3.out 0 (by decide) s' (c' := c4 (hv s') (kv n.k) (hv noHs0) (kv noK0)) rfl (all4 ⟨rfl, rfl, rfl, rfl⟩) rfl rfl rfl rfl rfl ?_; intro W4 h4; have S4 := Lib.hid h4; clear h4 S3)
    | (refine w_putK S4.out 1 (by decide) (shQ n v s' u).k (c' := (c4 (hv s') (kv (shQ n v s' u).k) (hv noHs0) (kv noK0))) rfl (all4 ⟨rfl, rfl, rfl, rfl⟩) rfl rfl rfl rfl rfl ?_; intro W5 h5; have S5 := Lib.hid h5; clear h5 S4))
  have p6 := (show Box _ (w.heap.size + 1) (kv (shQ n v s' u).k) from S5.out.box 1 (by decide)).cel 6 (.int .i64 n.k.pf) rfl
  go_upto_region 7 with (refine w_int S5.out 1 (by decide) 6 (n.k.pf + 1) (vs := kv (kp (shQ n v s' u).k n.k.pa (n.k.pf + 1))) (c' := (c4 (hv s') (kv (kp (shQ n v s' u).k n.k.pa (n.k.pf + 1))) (hv noHs0) (kv noK0))) (show 6 < 10 by decide) rfl (all4 ⟨rfl, rfl, rfl, rfl⟩) rfl rfl rfl rfl rfl ?_; intro W6 h6; have S6 := Lib.hid (Wn.swapk h6 (kp (shQ n v s' u).k n.k.pa (n.k.pf + 1))); clear h6 S5)
  clear p6
  have p6 := (show Box _ (w.heap.size + 1) (kv (kp (shQ n v s' u).k n.k.pa (n.k.pf + 1))) from S6.out.box 1 (by decide)).cel 6 (.int .i64 (n.k.pf + 1)) rfl
  go_upto_region 10 with fail
  clear p6
  have KE := S6
  refine Sh.region_gen fun a0 ha0 => ?_
  have G2 : a0.tmps[2]? = some (.pointer (some ⟨w.heap.size, 0, none⟩)) := by rw [ha0]; rfl
  have G3 : a0.tmps[3]? = some (.pointer (some ⟨w.heap.size + 1, 0, none⟩)) := by rw [ha0]; rfl
  have G4 : a0.tmps[4]? = some (.pointer (some ⟨w.heap.size + 2, 0, none⟩)) := by rw [ha0]; rfl
  have G5 : a0.tmps[5]? = some (.pointer (some ⟨w.heap.size + 3, 0, none⟩)) := by rw [ha0]; rfl
  have TD : a0.defers = [] := congrArg Act.defers ha0
  have TZ : a0.tmps.size = 63 := by rw [ha0]; rfl
  clear ha0
  refine region_plan (by kernel_rfl) (by kernel_rfl) (by rw [TZ]; kernel_rfl) (fun (_ : Unit) (i : Nat) => (match i with | 0 => (.agg #[.slice (⟨s', (kp (shQ n v s' u).k n.k.pa (n.k.pf + 1)), (shQ n v s' u).d, (shQ n v s' u).xs⟩ : Q2).s.w.a (⟨s', (kp (shQ n v s' u).k n.k.pa (n.k.pf + 1)), (shQ n v s' u).d, (shQ n v s' u).xs⟩ : Q2).s.w.n (⟨s', (kp (shQ n v s' u).k n.k.pa (n.k.pf + 1)), (shQ n v s' u).d, (shQ n v s' u).xs⟩ : Q2).s.w.c, .slice (⟨s', (kp (shQ n v s' u).k n.k.pa (n.k.pf + 1)), (shQ n v s' u).d, (shQ n v s' u).xs⟩ : Q2).s.p.a (⟨s', (kp (shQ n v s' u).k n.k.pa (n.k.pf + 1)), (shQ n v s' u).d, (shQ n v s' u).xs⟩ : Q2).s.p.n (⟨s', (kp (shQ n v s' u).k n.k.pa (n.k.pf + 1)), (shQ n v s' u).d, (shQ n v s' u).xs⟩ : Q2).s.p.c, .slice ((⟨s', (kp (shQ n v s' u).k n.k.pa (n.k.pf + 1)), (shQ n v s' u).d, (shQ n v s' u).xs⟩ : Q2).s.u 0).a ((⟨s', (kp (shQ n v s' u).k n.k.pa (n.k.pf + 1)), (shQ n v s' u).d, (shQ n v s' u).xs⟩ : Q2).s.u 0).n ((⟨s', (kp (shQ n v s' u).k n.k.pa (n.k.pf + 1)), (shQ n v s' u).d, (shQ n v s' u).xs⟩ : Q2).s.u 0).c, .slice ((⟨s', (kp (shQ n v s' u).k n.k.pa (n.k.pf + 1)), (shQ n v s' u).d, (shQ n v s' u).xs⟩ : Q2).s.u 1).a ((⟨s', (kp (shQ n v s' u).k n.k.pa (n.k.pf + 1)), (shQ n v s' u).d, (shQ n v s' u).xs⟩ : Q2).s.u 1).n ((⟨s', (kp (shQ n v s' u).k n.k.pa (n.k.pf + 1)), (shQ n v s' u).d, (shQ n v s' u).xs⟩ : Q2).s.u 1).c, .slice ((⟨s', (kp (shQ n v s' u).k n.k.pa (n.k.pf + 1)), (shQ n v s' u).d, (shQ n v s' u).xs⟩ : Q2).s.u 2).a ((⟨s', (kp (shQ n v s' u).k n.k.pa (n.k.pf + 1)), (shQ n v s' u).d, (shQ n v s' u).xs⟩ : Q2).s.u 2).n ((⟨s', (kp (shQ n v s' u).k n.k.pa (n.k.pf + 1)), (shQ n v s' u).d, (shQ n v s' u).xs⟩ : Q2).s.u 2).c, .slice (⟨s', (kp (shQ n v s' u).k n.k.pa (n.k.pf + 1)), (shQ n v s' u).d, (shQ n v s' u).xs⟩ : Q2).s.c.a (⟨s', (kp (shQ n v s' u).k n.k.pa (n.k.pf + 1)), (shQ n v s' u).d, (shQ n v s' u).xs⟩ : Q2).s.c.n (⟨s', (kp (shQ n v s' u).k n.k.pa (n.k.pf + 1)), (shQ n v s' u).d, (shQ n v s' u).xs⟩ : Q2).s.c.c]) | 1 => (.agg #[.int .i64 (⟨s', (kp (shQ n v s' u).k n.k.pa (n.k.pf + 1)), (shQ n v s' u).d, (shQ n v s' u).xs⟩ : Q2).k.ph, .int .i64 (⟨s', (kp (shQ n v s' u).k n.k.pa (n.k.pf + 1)), (shQ n v s' u).d, (shQ n v s' u).xs⟩ : Q2).k.ep, .bool (⟨s', (kp (shQ n v s' u).k n.k.pa (n.k.pf + 1)), (shQ n v s' u).d, (shQ n v s' u).xs⟩ : Q2).k.mj, .slice (⟨s', (kp (shQ n v s' u).k n.k.pa (n.k.pf + 1)), (shQ n v s' u).d, (shQ n v s' u).xs⟩ : Q2).k.wk.a (⟨s', (kp (shQ n v s' u).k n.k.pa (n.k.pf + 1)), (shQ n v s' u).d, (shQ n v s' u).xs⟩ : Q2).k.wk.n (⟨s', (kp (shQ n v s' u).k n.k.pa (n.k.pf + 1)), (shQ n v s' u).d, (shQ n v s' u).xs⟩ : Q2).k.wk.c, .bool (⟨s', (kp (shQ n v s' u).k n.k.pa (n.k.pf + 1)), (shQ n v s' u).d, (shQ n v s' u).xs⟩ : Q2).k.ov, .int .i64 (⟨s', (kp (shQ n v s' u).k n.k.pa (n.k.pf + 1)), (shQ n v s' u).d, (shQ n v s' u).xs⟩ : Q2).k.pa, .int .i64 (⟨s', (kp (shQ n v s' u).k n.k.pa (n.k.pf + 1)), (shQ n v s' u).d, (shQ n v s' u).xs⟩ : Q2).k.pf, .int .i64 (⟨s', (kp (shQ n v s' u).k n.k.pa (n.k.pf + 1)), (shQ n v s' u).d, (shQ n v s' u).xs⟩ : Q2).k.ps, .int .i64 (⟨s', (kp (shQ n v s' u).k n.k.pa (n.k.pf + 1)), (shQ n v s' u).d, (shQ n v s' u).xs⟩ : Q2).k.pc, .bool (⟨s', (kp (shQ n v s' u).k n.k.pa (n.k.pf + 1)), (shQ n v s' u).d, (shQ n v s' u).xs⟩ : Q2).k.me]) | _ => undef : Value)) (fun _ l W => R4 w (p4 w.heap.size (w.heap.size + 1) (w.heap.size + 2) (w.heap.size + 3)) (⟨s', (kp (shQ n v s' u).k n.k.pa (n.k.pf + 1)), (shQ n v s' u).d, (shQ n v s' u).xs⟩ : Q2) (⟨s', (kp (shQ n v s' u).k n.k.pa (n.k.pf + 1)), (shQ n v s' u).d, (shQ n v s' u).xs⟩ : Q2).k 2 3 l W) () ?start ?step ?done
  case start => exact r4_start (KE.out.next ⟨rfl, rfl, rfl, Nat.le_refl _, fun _ _ => rfl⟩)
  case step =>
    rintro i o9 l a9 _ W9 ho hP hI hl haft K hK
    have hi : i < 4 := (Array.getElem?_eq_some_iff.1 ho).1
    rcases (show i = 0 ∨ i = 1 ∨ i = 2 ∨ i = 3 by omega) with rfl | rfl | rfl | rfl
    · obtain rfl := Option.some.inj ho
      have q9 := (hP.keep (j := 2) (by kernel_rfl)).trans G2
      exact p_load rfl (ev q9) (ldHb (show Box W9 (w.heap.size) (hv (⟨s', (kp (shQ n v s' u).k n.k.pa (n.k.pf + 1)), (shQ n v s' u).d, (shQ n v s' u).xs⟩ : Q2).s) from hI.st.box 0 (by decide))) (hK () _ (fun _ _ => rfl) (hI.pure (by decide) (by decide)))
    · obtain rfl := Option.some.inj ho
      have q9 := (hP.keep (j := 3) (by kernel_rfl)).trans G3
      exact p_load rfl (ev q9) (ldKb (show Box W9 (w.heap.size + 1) (kv (⟨s', (kp (shQ n v s' u).k n.k.pa (n.k.pf + 1)), (shQ n v s' u).d, (shQ n v s' u).xs⟩ : Q2).k) from hI.st.box 1 (by decide))) (hK () _ (fun _ _ => rfl) (hI.pure (by decide) (by decide)))
    · obtain rfl := Option.some.inj ho
      have e9 := hP.got 0 _ 61 rfl (haft ⟨0, .data⟩ (by simp) rfl) rfl
      try dsimp only at e9
      have q9 := (hP.keep (j := 4) (by kernel_rfl)).trans G4
      exact p_store rfl (ev q9) (ev e9) (stHb (show Box W9 (w.heap.size + 2) _ from hI.st.box 2 (by decide)) sel_h ((⟨s', (kp (shQ n v s' u).k n.k.pa (n.k.pf + 1)), (shQ n v s' u).d, (shQ n v s' u).xs⟩ : Q2).s)) (hK () _ (fun _ _ => rfl) (hI.putH (by decide)))
    · obtain rfl := Option.some.inj ho
      have e9 := hP.got 1 _ 62 rfl (haft ⟨1, .data⟩ (by simp) rfl) rfl
      try dsimp only at e9
      have q9 := (hP.keep (j := 5) (by kernel_rfl)).trans G5
      exact p_store rfl (ev q9) (ev e9) (stKb (show Box W9 (w.heap.size + 3) _ from hI.st.box 3 (by decide)) sel_k ((⟨s', (kp (shQ n v s' u).k n.k.pa (n.k.pf + 1)), (shQ n v s' u).d, (shQ n v s' u).xs⟩ : Q2).k)) (hK () _ (fun _ _ => rfl) (hI.putK (by decide)))
  case done =>
    rintro l a9 _ W9 hP hI hall
    have t4 := (hP.keep (j := 4) (by kernel_rfl)).trans G4
    have t5 := (hP.keep (j := 5) (by kernel_rfl)).trans G5
    have td := hP.df.trans TD
    have D9 := Lib.hid (hI.done (hall 2 (by decide)) (hall 3 (by decide)))
    clear hP hI hall
    go_wp2
    exact bodyPost_ret (resHK rfl t4 t5 (show Box W9 (w.heap.size + 2) (hv (⟨s', (kp (shQ n v s' u).k n.k.pa (n.k.pf + 1)), (shQ n v s' u).d, (shQ n v s' u).xs⟩ : Q2).s) from D9.out.box 2 (by decide)) (show Box W9 (w.heap.size + 3) (kv (⟨s', (kp (shQ n v s' u).k n.k.pa (n.k.pf + 1)), (shQ n v s' u).d, (shQ n v s' u).xs⟩ : Q2).k) from D9.out.box 3 (by decide))) td ⟨(⟨s', (kp (shQ n v s' u).k n.k.pa (n.k.pf + 1)), (shQ n v s' u).d, (shQ n v s' u).xs⟩ : Q2), rfl, N3.out.1, by rw [HR.out]; rfl, by rw [HR.out]; rfl, by rw [HR.out]; rfl, D9.out.at _ (by simp), fun B hB hN => ⟨news_le N3.out.2.1 hB, fun h0 y hy => Nat.le_trans hB (N3.out.2.2 h0 y hy)⟩, D9.out.bel⟩
set_option maxHeartbeats 2000000 in
theorem field_last (n : Q2) (w : World) (hn : Hold w n) (hz : Cl.Sz w) (hf : Fine n.s n.d) (hx : n.xs.length ≤ 999000) (h0 : 0 ≤ n.k.pf) (h2 : n.k.pf + 1 = fldN n.s n.d n.k) : Calls Tryz.prog 72 #[(.agg #[.slice n.s.w.a n.s.w.n n.s.w.c, .slice n.s.p.a n.s.p.n n.s.p.c, .slice (n.s.u 0).a (n.s.u 0).n (n.s.u 0).c, .slice (n.s.u 1).a (n.s.u 1).n (n.s.u 1).c, .slice (n.s.u 2).a (n.s.u 2).n (n.s.u 2).c, .slice n.s.c.a n.s.c.n n.s.c.c]), (.agg #[.int .i64 n.k.ph, .int .i64 n.k.ep, .bool n.k.mj, .slice n.k.wk.a n.k.wk.n n.k.wk.c, .bool n.k.ov, .int .i64 n.k.pa, .int .i64 n.k.pf, .int .i64 n.k.ps, .int .i64 n.k.pc, .bool n.k.me])] w (StOut w n (fieldR n.s n.d n.k n.xs)) := by
  have HN := Lib.hid hn
  have HZ := Lib.hid hz
  have HF := Lib.hid hf
  have hg : Sh.isC n.s n.d n.k.mj n.k.ep n.k.pa 2 = true := Classical.byContradiction fun hh => by
    have : fldN n.s n.d n.k = 0 := if_neg hh
    omega
  have hN : fldN n.s n.d n.k = nOf (wd n.d n.k.pa) := if_pos hg
  obtain ⟨f0, f1, f2, f3, _, _⟩ := fld_in (Sh.isC_iff.1 hg).2.1
  have hwn := hf.wn
  obtain ⟨v, hv⟩ : ∃ v, v = fldV n.d n.k := ⟨_, rfl⟩
  have HR := Lib.hid (show fieldR n.s n.d n.k n.xs = (⟨Sh.blD n.s (Sh.shD n.s n.d n.k.mj n.k.ep (fldV n.d n.k)) n.k.mj n.k.ep n.k.pa, kp (Sh.kw n.k n.k.wk (Sh.shO (white n.s n.d n.k (fldV n.d n.k)) n.xs n.k.ov)) 0 0, Sh.shX (white n.s n.d n.k (fldV n.d n.k)) n.xs (fldV n.d n.k)⟩ : R3) from (if_neg (by omega)).trans (if_pos h2))
  have CG := Lib.hid (fun W (hW : Hold W n) => Ar.get_ok W.heap.size n.s.w.a n.s.w.n n.s.w.c n.d.ws (n.k.pa + 1 + n.k.pf) W f3 (by omega) (by omega) hW.h.words)
  rw [show n.d.ws.getD ((n.k.pa + 1 + n.k.pf) - 16).toNat 0 = v from hv.symm] at CG
  rw [← hv] at HR
  have C1 := Lib.hid (fun W (hW : Hold W n) (hz : Cl.Sz W) => fields_any n W hW hz hf)
  have C2 := Lib.hid (fun W (hW : Hold W n) (hz : Cl.Sz W) => Sh.shade_any n.s n.d n.k n.xs v W (by omega) hW.h hW.c hz hf)
  have e1 : IntKind.i64.wrap (n.k.pa + 1) = n.k.pa + 1 := IntWalk.i64_in _ (by omega)
  have e2 : IntKind.i64.wrap (n.k.pa + 1 + n.k.pf) = n.k.pa + 1 + n.k.pf := IntWalk.i64_in _ (by omega)
  have e3 : IntKind.i64.wrap (n.k.pf + 1) = n.k.pf + 1 := IntWalk.i64_in _ (by omega)
  have c1 : decide (n.k.pf < 0) = false := decide_eq_false (by omega)
  have c2 : decide (fldN n.s n.d n.k ≤ n.k.pf) = false := decide_eq_false (by omega)
  have c3 : decide (n.k.pf ≥ fldN n.s n.d n.k) = false := c2
  have c4' : decide (n.k.pf + 1 = fldN n.s n.d n.k) = true := decide_eq_true h2
  have c5 : (n.k.pf + 1 == fldN n.s n.d n.k) = true := c4'
  have HG := Lib.hid hg
  have HLN := Lib.hid hn.h.words.1
  generalize fldN n.s n.d n.k = N at C1 c2 c3 c4' c5 h2 hN
  clear hn hz hf h0 h2 hN hg f0 f1 f2 f3 hwn hv hx
  go_enter Tryz.func72, Tryz.ntmps72
  go_upto_region 1 with fail
  obtain ⟨W1, hW1⟩ : ∃ W1, W1 = ((((w.alloc (.cells #[.slice n.s.w.a n.s.w.n n.s.w.c, .slice n.s.p.a n.s.p.n n.s.p.c, .slice (n.s.u 0).a (n.s.u 0).n (n.s.u 0).c, .slice (n.s.u 1).a (n.s.u 1).n (n.s.u 1).c, .slice (n.s.u 2).a (n.s.u 2).n (n.s.u 2).c, .slice n.s.c.a n.s.c.n n.s.c.c] 28)).alloc (.cells #[.int .i64 n.k.ph, .int .i64 n.k.ep, .bool n.k.mj, .slice n.k.wk.a n.k.wk.n n.k.wk.c, .bool n.k.ov, .int .i64 n.k.pa, .int .i64 n.k.pf, .int .i64 n.k.ps, .int .i64 n.k.pc, .bool n.k.me] 30)).alloc (.cells #[.slice none 0 0, .slice none 0 0, .slice none 0 0, .slice none 0 0, .slice none 0 0, .slice none 0 0] 28)).alloc (.cells #[.int .i64 0, .int .i64 0, .bool false, .slice none 0 0, .bool false, .int .i64 0, .int .i64 0, .int .i64 0, .int .i64 0, .bool false] 30)) := ⟨_, rfl⟩
  have S1 : Hid (Wn 4 w W1 (p4 w.heap.size (w.heap.size + 1) (w.heap.size + 2) (w.heap.size + 3)) (c4 (hv n.s) (kv n.k) (hv noHs0) (kv noK0)) [n]) := Lib.hid (by
    rw [hW1]
    exact (wn_of (c := (c4 (hv n.s) (kv n.k) (hv noHs0) (kv noK0))) (((((lay_none w).add (hv n.s) 28).add (kv n.k) 30).add (hv noHs0) 28).add (kv noK0) 30) (by decide) (all4 ⟨rfl, rfl, rfl, rfl⟩)).old HN.out)
  rw [← hW1]
  clear hW1
  go_upto_region 2 with (first
    | (refine w_load (ldHb (show Box _ (w.heap.size) (hv n.s) from S1.out.box 0 (by decide))) rfl rfl rfl rfl ?_)
    | (refine w_load (ldKb (show Box _ (w.heap.size + 1) (kv n.k) from S1.out.box 1 (by decide))) rfl rfl rfl rfl ?_)
    | ((go_at_call 112); (with_reducible refine (C1.out _ (S1.out.at n (by simp)) (S1.out.over HZ.out)).mono ?_); rintro e9 w9 ⟨rfl, hb9⟩; have S2 := Lib.hid (S1.out.next hb9); clear hb9))
  have q6 := (show Box _ (w.heap.size + 1) (kv n.k) from S2.out.box 1 (by decide)).cel 6 (.int .i64 n.k.pf) rfl
  go_upto_region 4 with fail
  clear q6
  have r0 := (show Box _ (w.heap.size) (hv n.s) from S2.out.box 0 (by decide)).cel 0 (.slice n.s.w.a n.s.w.n n.s.w.c) rfl
  have q5 := (show Box _ (w.heap.size + 1) (kv n.k) from S2.out.box 1 (by decide)).cel 5 (.int .i64 n.k.pa) rfl
  have q6 := (show Box _ (w.heap.size + 1) (kv n.k) from S2.out.box 1 (by decide)).cel 6 (.int .i64 n.k.pf) rfl
  go_upto_region 5 with ((go_at_call 69); (with_reducible refine (CG.out _ (S2.out.at n (by simp))).mono ?_); rintro e9 w9 ⟨rfl, rfl⟩)
  clear r0 q5 q6
  go_upto_region 6 with (first
    | (refine w_load (ldHb (show Box _ (w.heap.size) (hv n.s) from S2.out.box 0 (by decide))) rfl rfl rfl rfl ?_)
    | (refine w_load (ldKb (show Box _ (w.heap.size + 1) (kv n.k) from S2.out.box 1 (by decide))) rfl rfl rfl rfl ?_)
    | ((go_at_call 60); (with_reducible refine (C2.out _ (S2.out.at n (by simp)) (S2.out.over HZ.out)).mono ?_); rintro e9 w9 ⟨s', u, rfl, hp9, hl9, hn9, ha9⟩; have S3 := Lib.hid (sh_next S2.out hp9 hn9 ha9); have N3 := Lib.hid (sh_new S2.out hl9 hn9 ha9); clear hp9 hl9 hn9 ha9)
    | (refine w_putH S3.out 0 (by decide) s' (c' := c4 (hv s') (kv n.k) (hv noHs0) (kv noK0)) rfl (all4 ⟨rfl, rfl, rfl, rfl⟩) rfl rfl rfl rfl rfl ?_; intro W4 h4; have S4 := Lib.hid h4; clear h4 S3)
    | (refine w_putK S4.out 1 (by decide) (shQ n v s' u).k (c' := (c4 (hv s') (kv (shQ n v s' u).k) (hv noHs0) (kv noK0))) rfl (all4 ⟨rfl, rfl, rfl, rfl⟩) rfl rfl rfl rfl rfl ?_; intro W5 h5; have S5 := Lib.hid h5; clear h5 S4))
  have p6 := (show Box _ (w.heap.size + 1) (kv (shQ n v s' u).k) from S5.out.box 1 (by decide)).cel 6 (.int .i64 n.k.pf) rfl
  go_upto_region 7 with (refine w_int S5.out 1 (by decide) 6 (n.k.pf + 1) (vs := kv (kp (shQ n v s' u).k n.k.pa (n.k.pf + 1))) (c' := (c4 (hv s') (kv (kp (shQ n v s' u).k n.k.pa (n.k.pf + 1))) (hv noHs0) (kv noK0))) (show 6 < 10 by decide) rfl (all4 ⟨rfl, rfl, rfl, rfl⟩) rfl rfl rfl rfl rfl ?_; intro W6 h6; have S6 := Lib.hid (Wn.swapk h6 (kp (shQ n v s' u).k n.k.pa (n.k.pf + 1))); clear h6 S5)
  clear p6
  have p6 := (show Box _ (w.heap.size + 1) (kv (kp (shQ n v s' u).k n.k.pa (n.k.pf + 1))) from S6.out.box 1 (by decide)).cel 6 (.int .i64 (n.k.pf + 1)) rfl
  go_upto_region 8 with fail
  clear p6
  have p5 := (show Box _ (w.heap.size + 1) (kv (kp (shQ n v s' u).k n.k.pa (n.k.pf + 1))) from S6.out.box 1 (by decide)).cel 5 (.int .i64 n.k.pa) rfl
  have C3 := Lib.hid (fun W (hW : Hold W (⟨s', (kp (shQ n v s' u).k n.k.pa (n.k.pf + 1)), (shQ n v s' u).d, (shQ n v s' u).xs⟩ : Q2)) (hz : Cl.Sz W) => Sh.black_new s' (shQ n v s' u).d (kp (shQ n v s' u).k n.k.pa (n.k.pf + 1)) (shQ n v s' u).xs n.k.pa W hW.h hW.c hz ((Sh.kin_sh N3.out.1 HLN.out n.k.mj n.k.ep v).fine HF.out))
  rw [show Sh.blD s' (shQ n v s' u).d ((kp (shQ n v s' u).k n.k.pa (n.k.pf + 1))).mj ((kp (shQ n v s' u).k n.k.pa (n.k.pf + 1))).ep n.k.pa = (Sh.blD n.s (shQ n v s' u).d n.k.mj n.k.ep n.k.pa) from bl_lens N3.out.1 _ _ _ _] at C3
  go_upto_region 9 with (first
    | (refine w_load (ldHb (show Box _ (w.heap.size) (hv s') from S6.out.box 0 (by decide))) rfl rfl rfl rfl ?_)
    | (refine w_load (ldKb (show Box _ (w.heap.size + 1) (kv (kp (shQ n v s' u).k n.k.pa (n.k.pf + 1))) from S6.out.box 1 (by decide))) rfl rfl rfl rfl ?_)
    | ((go_at_call 114); (with_reducible refine (C3.out _ (S6.out.at _ (List.mem_singleton.2 rfl)) (S6.out.over HZ.out)).mono ?_); rintro e9 w9 ⟨s2, rfl, hp9, hl9, hn9, hb9⟩; have M7 := Lib.hid (show Hold w9 (⟨s2, (kp (shQ n v s' u).k n.k.pa (n.k.pf + 1)), (Sh.blD n.s (shQ n v s' u).d n.k.mj n.k.ep n.k.pa), (shQ n v s' u).xs⟩ : Q2) from ⟨hp9, (Hold.next (S6.out.at _ (List.mem_singleton.2 rfl)) hb9).c⟩); have S7 := Lib.hid (S6.out.swap M7.out (fun i hi => ⟨offh_new hn9 (S6.out.lt hi), ((S6.out.hold _ (List.mem_singleton.2 rfl)).2 i hi).k⟩) hb9); have L7 := Lib.hid (And.intro hl9 (news_le hn9 (show w.heap.size ≤ _ from S6.out.bel.size))); clear hp9 hl9 hn9 hb9)
    | (refine w_putH S7.out 0 (by decide) s2 (c' := (c4 (hv s2) (kv (kp (shQ n v s' u).k n.k.pa (n.k.pf + 1))) (hv noHs0) (kv noK0))) rfl (all4 ⟨rfl, rfl, rfl, rfl⟩) rfl rfl rfl rfl rfl ?_; intro W8 h8; have S8 := Lib.hid h8; clear h8 S7))
  clear p5
  go_upto_region 10 with (first
    | (refine w_load (ldKb (show Box _ (w.heap.size + 1) (kv (kp (shQ n v s' u).k n.k.pa (n.k.pf + 1))) from S8.out.box 1 (by decide))) rfl rfl rfl rfl ?_)
    | ((go_at_call 113); (with_reducible refine (leave_any (kp (shQ n v s' u).k n.k.pa (n.k.pf + 1)) _).mono ?_); rintro e9 w9 ⟨rfl, hb9⟩; have S9 := Lib.hid (S8.out.next hb9); clear hb9 S8)
    | (refine w_putK S9.out 1 (by decide) (kp (shQ n v s' u).k 0 0) (c' := (c4 (hv s2) (kv (kp (shQ n v s' u).k 0 0)) (hv noHs0) (kv noK0))) rfl (all4 ⟨rfl, rfl, rfl, rfl⟩) rfl rfl rfl rfl rfl ?_; intro W9' h9; have SA := Lib.hid (Wn.swapk h9 (kp (shQ n v s' u).k 0 0)); clear h9 S9))
  have KE := SA
  refine Sh.region_gen fun a0 ha0 => ?_
  have G2 : a0.tmps[2]? = some (.pointer (some ⟨w.heap.size, 0, none⟩)) := by rw [ha0]; rfl
  have G3 : a0.tmps[3]? = some (.pointer (some ⟨w.heap.size + 1, 0, none⟩)) := by rw [ha0]; rfl
  have G4 : a0.tmps[4]? = some (.pointer (some ⟨w.heap.size + 2, 0, none⟩)) := by rw [ha0]; rfl
  have G5 : a0.tmps[5]? = some (.pointer (some ⟨w.heap.size + 3, 0, none⟩)) := by rw [ha0]; rfl
  have TD : a0.defers = [] := congrArg Act.defers ha0
  have TZ : a0.tmps.size = 63 := by rw [ha0]; rfl
  clear ha0
  refine region_plan (by kernel_rfl) (by kernel_rfl) (by rw [TZ]; kernel_rfl) (fun (_ : Unit) (i : Nat) => (match i with | 0 => (.agg #[.slice (⟨s2, (kp (shQ n v s' u).k 0 0), (Sh.blD n.s (shQ n v s' u).d n.k.mj n.k.ep n.k.pa), (shQ n v s' u).xs⟩ : Q2).s.w.a (⟨s2, (kp (shQ n v s' u).k 0 0), (Sh.blD n.s (shQ n v s' u).d n.k.mj n.k.ep n.k.pa), (shQ n v s' u).xs⟩ : Q2).s.w.n (⟨s2, (kp (shQ n v s' u).k 0 0), (Sh.blD n.s (shQ n v s' u).d n.k.mj n.k.ep n.k.pa), (shQ n v s' u).xs⟩ : Q2).s.w.c, .slice (⟨s2, (kp (shQ n v s' u).k 0 0), (Sh.blD n.s (shQ n v s' u).d n.k.mj n.k.ep n.k.pa), (shQ n v s' u).xs⟩ : Q2).s.p.a (⟨s2, (kp (shQ n v s' u).k 0 0), (Sh.blD n.s (shQ n v s' u).d n.k.mj n.k.ep n.k.pa), (shQ n v s' u).xs⟩ : Q2).s.p.n (⟨s2, (kp (shQ n v s' u).k 0 0), (Sh.blD n.s (shQ n v s' u).d n.k.mj n.k.ep n.k.pa), (shQ n v s' u).xs⟩ : Q2).s.p.c, .slice ((⟨s2, (kp (shQ n v s' u).k 0 0), (Sh.blD n.s (shQ n v s' u).d n.k.mj n.k.ep n.k.pa), (shQ n v s' u).xs⟩ : Q2).s.u 0).a ((⟨s2, (kp (shQ n v s' u).k 0 0), (Sh.blD n.s (shQ n v s' u).d n.k.mj n.k.ep n.k.pa), (shQ n v s' u).xs⟩ : Q2).s.u 0).n ((⟨s2, (kp (shQ n v s' u).k 0 0), (Sh.blD n.s (shQ n v s' u).d n.k.mj n.k.ep n.k.pa), (shQ n v s' u).xs⟩ : Q2).s.u 0).c, .slice ((⟨s2, (kp (shQ n v s' u).k 0 0), (Sh.blD n.s (shQ n v s' u).d n.k.mj n.k.ep n.k.pa), (shQ n v s' u).xs⟩ : Q2).s.u 1).a ((⟨s2, (kp (shQ n v s' u).k 0 0), (Sh.blD n.s (shQ n v s' u).d n.k.mj n.k.ep n.k.pa), (shQ n v s' u).xs⟩ : Q2).s.u 1).n ((⟨s2, (kp (shQ n v s' u).k 0 0), (Sh.blD n.s (shQ n v s' u).d n.k.mj n.k.ep n.k.pa), (shQ n v s' u).xs⟩ : Q2).s.u 1).c, .slice ((⟨s2, (kp (shQ n v s' u).k 0 0), (Sh.blD n.s (shQ n v s' u).d n.k.mj n.k.ep n.k.pa), (shQ n v s' u).xs⟩ : Q2).s.u 2).a ((⟨s2, (kp (shQ n v s' u).k 0 0), (Sh.blD n.s (shQ n v s' u).d n.k.mj n.k.ep n.k.pa), (shQ n v s' u).xs⟩ : Q2).s.u 2).n ((⟨s2, (kp (shQ n v s' u).k 0 0), (Sh.blD n.s (shQ n v s' u).d n.k.mj n.k.ep n.k.pa), (shQ n v s' u).xs⟩ : Q2).s.u 2).c, .slice (⟨s2, (kp (shQ n v s' u).k 0 0), (Sh.blD n.s (shQ n v s' u).d n.k.mj n.k.ep n.k.pa), (shQ n v s' u).xs⟩ : Q2).s.c.a (⟨s2, (kp (shQ n v s' u).k 0 0), (Sh.blD n.s (shQ n v s' u).d n.k.mj n.k.ep n.k.pa), (shQ n v s' u).xs⟩ : Q2).s.c.n (⟨s2, (kp (shQ n v s' u).k 0 0), (Sh.blD n.s (shQ n v s' u).d n.k.mj n.k.ep n.k.pa), (shQ n v s' u).xs⟩ : Q2).s.c.c]) | 1 => (.agg #[.int .i64 (⟨s2, (kp (shQ n v s' u).k 0 0), (Sh.blD n.s (shQ n v s' u).d n.k.mj n.k.ep n.k.pa), (shQ n v s' u).xs⟩ : Q2).k.ph, .int .i64 (⟨s2, (kp (shQ n v s' u).k 0 0), (Sh.blD n.s (shQ n v s' u).d n.k.mj n.k.ep n.k.pa), (shQ n v s' u).xs⟩ : Q2).k.ep, .bool (⟨s2, (kp (shQ n v s' u).k 0 0), (Sh.blD n.s (shQ n v s' u).d n.k.mj n.k.ep n.k.pa), (shQ n v s' u).xs⟩ : Q2).k.mj, .slice (⟨s2, (kp (shQ n v s' u).k 0 0), (Sh.blD n.s (shQ n v s' u).d n.k.mj n.k.ep n.k.pa), (shQ n v s' u).xs⟩ : Q2).k.wk.a (⟨s2, (kp (shQ n v s' u).k 0 0), (Sh.blD n.s (shQ n v s' u).d n.k.mj n.k.ep n.k.pa), (shQ n v s' u).xs⟩ : Q2).k.wk.n (⟨s2, (kp (shQ n v s' u).k 0 0), (Sh.blD n.s (shQ n v s' u).d n.k.mj n.k.ep n.k.pa), (shQ n v s' u).xs⟩ : Q2).k.wk.c, .bool (⟨s2, (kp (shQ n v s' u).k 0 0), (Sh.blD n.s (shQ n v s' u).d n.k.mj n.k.ep n.k.pa), (shQ n v s' u).xs⟩ : Q2).k.ov, .int .i64 (⟨s2, (kp (shQ n v s' u).k 0 0), (Sh.blD n.s (shQ n v s' u).d n.k.mj n.k.ep n.k.pa), (shQ n v s' u).xs⟩ : Q2).k.pa, .int .i64 (⟨s2, (kp (shQ n v s' u).k 0 0), (Sh.blD n.s (shQ n v s' u).d n.k.mj n.k.ep n.k.pa), (shQ n v s' u).xs⟩ : Q2).k.pf, .int .i64 (⟨s2, (kp (shQ n v s' u).k 0 0), (Sh.blD n.s (shQ n v s' u).d n.k.mj n.k.ep n.k.pa), (shQ n v s' u).xs⟩ : Q2).k.ps, .int .i64 (⟨s2, (kp (shQ n v s' u).k 0 0), (Sh.blD n.s (shQ n v s' u).d n.k.mj n.k.ep n.k.pa), (shQ n v s' u).xs⟩ : Q2).k.pc, .bool (⟨s2, (kp (shQ n v s' u).k 0 0), (Sh.blD n.s (shQ n v s' u).d n.k.mj n.k.ep n.k.pa), (shQ n v s' u).xs⟩ : Q2).k.me]) | _ => undef : Value)) (fun _ l W => R4 w (p4 w.heap.size (w.heap.size + 1) (w.heap.size + 2) (w.heap.size + 3)) (⟨s2, (kp (shQ n v s' u).k 0 0), (Sh.blD n.s (shQ n v s' u).d n.k.mj n.k.ep n.k.pa), (shQ n v s' u).xs⟩ : Q2) (⟨s2, (kp (shQ n v s' u).k 0 0), (Sh.blD n.s (shQ n v s' u).d n.k.mj n.k.ep n.k.pa), (shQ n v s' u).xs⟩ : Q2).k 2 3 l W) () ?start ?step ?done
  case start => exact r4_start (KE.out.next ⟨rfl, rfl, rfl, Nat.le_refl _, fun _ _ => rfl⟩)
  case step =>
    rintro i o9 l a9 _ W9 ho hP hI hl haft K hK
    have hi : i < 4 := (Array.getElem?_eq_some_iff.1 ho).1
    rcases (show i = 0 ∨ i = 1 ∨ i = 2 ∨ i = 3 by omega) with rfl | rfl | rfl | rfl
    · obtain rfl := Option.some.inj ho
      have q9 := (hP.keep (j := 2) (by kernel_rfl)).trans G2
      exact p_load rfl (ev q9) (ldHb (show Box W9 (w.heap.size) (hv (⟨s2, (kp (shQ n v s' u).k 0 0), (Sh.blD n.s (shQ n v s' u).d n.k.mj n.k.ep n.k.pa), (shQ n v s' u).xs⟩ : Q2).s) from hI.st.box 0 (by decide))) (hK () _ (fun _ _ => rfl) (hI.pure (by decide) (by decide)))
    · obtain rfl := Option.some.inj ho
      have q9 := (hP.keep (j := 3) (by kernel_rfl)).trans G3
      exact p_load rfl (ev q9) (ldKb (show Box W9 (w.heap.size + 1) (kv (⟨s2, (kp (shQ n v s' u).k 0 0), (Sh.blD n.s (shQ n v s' u).d n.k.mj n.k.ep n.k.pa), (shQ n v s' u).xs⟩ : Q2).k) from hI.st.box 1 (by decide))) (hK () _ (fun _ _ => rfl) (hI.pure (by decide) (by decide)))
    · obtain rfl := Option.some.inj ho
      have e9 := hP.got 0 _ 61 rfl (haft ⟨0, .data⟩ (by simp) rfl) rfl
      try dsimp only at e9
      have q9 := (hP.keep (j := 4) (by kernel_rfl)).trans G4
      exact p_store rfl (ev q9) (ev e9) (stHb (show Box W9 (w.heap.size + 2) _ from hI.st.box 2 (by decide)) sel_h ((⟨s2, (kp (shQ n v s' u).k 0 0), (Sh.blD n.s (shQ n v s' u).d n.k.mj n.k.ep n.k.pa), (shQ n v s' u).xs⟩ : Q2).s)) (hK () _ (fun _ _ => rfl) (hI.putH (by decide)))
    · obtain rfl := Option.some.inj ho
      have e9 := hP.got 1 _ 62 rfl (haft ⟨1, .data⟩ (by simp) rfl) rfl
      try dsimp only at e9
      have q9 := (hP.keep (j := 5) (by kernel_rfl)).trans G5
      exact p_store rfl (ev q9) (ev e9) (stKb (show Box W9 (w.heap.size + 3) _ from hI.st.box 3 (by decide)) sel_k ((⟨s2, (kp (shQ n v s' u).k 0 0), (Sh.blD n.s (shQ n v s' u).d n.k.mj n.k.ep n.k.pa), (shQ n v s' u).xs⟩ : Q2).k)) (hK () _ (fun _ _ => rfl) (hI.putK (by decide)))
  case done =>
    rintro l a9 _ W9 hP hI hall
    have t4 := (hP.keep (j := 4) (by kernel_rfl)).trans G4
    have t5 := (hP.keep (j := 5) (by kernel_rfl)).trans G5
    have td := hP.df.trans TD
    have D9 := Lib.hid (hI.done (hall 2 (by decide)) (hall 3 (by decide)))
    clear hP hI hall
    go_wp2
    exact bodyPost_ret (resHK rfl t4 t5 (show Box W9 (w.heap.size + 2) (hv (⟨s2, (kp (shQ n v s' u).k 0 0), (Sh.blD n.s (shQ n v s' u).d n.k.mj n.k.ep n.k.pa), (shQ n v s' u).xs⟩ : Q2).s) from D9.out.box 2 (by decide)) (show Box W9 (w.heap.size + 3) (kv (⟨s2, (kp (shQ n v s' u).k 0 0), (Sh.blD n.s (shQ n v s' u).d n.k.mj n.k.ep n.k.pa), (shQ n v s' u).xs⟩ : Q2).k) from D9.out.box 3 (by decide))) td ⟨(⟨s2, (kp (shQ n v s' u).k 0 0), (Sh.blD n.s (shQ n v s' u).d n.k.mj n.k.ep n.k.pa), (shQ n v s' u).xs⟩ : Q2), rfl, lens_trans' N3.out.1 L7.out.1, by rw [HR.out]; rfl, by rw [HR.out]; rfl, by rw [HR.out]; rfl, D9.out.at _ (by simp), fun B hB hN => ⟨news_le L7.out.2 hB, fun h0 y hy => Nat.le_trans hB (N3.out.2.2 h0 y hy)⟩, D9.out.bel⟩
theorem field_any (n : Q2) (w : World) (hn : Hold w n) (hz : Cl.Sz w) (hf : Fine n.s n.d) (hx : n.xs.length ≤ 999000) : Calls Tryz.prog 72 #[(.agg #[.slice n.s.w.a n.s.w.n n.s.w.c, .slice n.s.p.a n.s.p.n n.s.p.c, .slice (n.s.u 0).a (n.s.u 0).n (n.s.u 0).c, .slice (n.s.u 1).a (n.s.u 1).n (n.s.u 1).c, .slice (n.s.u 2).a (n.s.u 2).n (n.s.u 2).c, .slice n.s.c.a n.s.c.n n.s.c.c]), (.agg #[.int .i64 n.k.ph, .int .i64 n.k.ep, .bool n.k.mj, .slice n.k.wk.a n.k.wk.n n.k.wk.c, .bool n.k.ov, .int .i64 n.k.pa, .int .i64 n.k.pf, .int .i64 n.k.ps, .int .i64 n.k.pc, .bool n.k.me])] w (StOut w n (fieldR n.s n.d n.k n.xs)) := by
  by_cases h0 : n.k.pf < 0
  · exact field_low n w hn hz hf h0
  · by_cases h1 : fldN n.s n.d n.k ≤ n.k.pf
    · exact field_high n w hn hz hf ⟨h0, h1⟩
    · by_cases h2 : n.k.pf + 1 = fldN n.s n.d n.k
      · exact field_last n w hn hz hf hx (by omega) h2
      · exact field_mid n w hn hz hf hx (by omega) (by omega) h2
end Go.Proofs.YtccjelpfmkbmiaaGreatDoor.Tr
