/-
  Package hand: shadeRoot.
-/
import Derived.Test.YtgmkomnoiffapaaGreatDoorHpNI
namespace Go.Proofs.YtgmkomnoiffapaaGreatDoor.Ha
open Go.Proofs.YtgmkomnoiffapaaGreatDoor Go.Proofs.YtgmkomnoiffapaaGreatDoor.Rt
open Go.RowKit
open Go.Proofs.YtgmkomnoiffapaaGreatDoor.Mu (hv kv w_load w_store w_loadg ldHb ldKb ldTb stHb stKb stTb st_int ld_int p_load p_store ev region_plan noHs0 noK0)
set_option maxRecDepth 100000

set_option maxHeartbeats 1000000 in
theorem root_next (n : Q3) (w : World) (h : Pre w n) (hm : mayT n.t = true) (hr : ¬ n.t.rt = 3) : Calls Tryz.prog 64 #[(.agg #[.slice n.s.w.a n.s.w.n n.s.w.c, .slice n.s.p.a n.s.p.n n.s.p.c, .slice (n.s.u 0).a (n.s.u 0).n (n.s.u 0).c, .slice (n.s.u 1).a (n.s.u 1).n (n.s.u 1).c, .slice (n.s.u 2).a (n.s.u 2).n (n.s.u 2).c, .slice n.s.c.a n.s.c.n n.s.c.c]), (.agg #[.int .i64 n.k.ph, .int .i64 n.k.ep, .bool n.k.mj, .slice n.k.wk.a n.k.wk.n n.k.wk.c, .bool n.k.ov, .int .i64 n.k.pa, .int .i64 n.k.pf, .int .i64 n.k.ps, .int .i64 n.k.pc, .bool n.k.me]), (.agg #[.bool n.t.lv, .int .i64 (n.t.r 0), .int .i64 (n.t.r 1), .int .i64 (n.t.r 2), .int .i64 (n.t.r 3), .slice (n.t.u 0).a (n.t.u 0).n (n.t.u 0).c, .slice (n.t.u 1).a (n.t.u 1).n (n.t.u 1).c, .slice (n.t.u 2).a (n.t.u 2).n (n.t.u 2).c, .int .i64 n.t.ep, .int .i64 n.t.sg, .int .i64 n.t.rt, .slice n.t.o.a n.t.o.n n.t.o.c, .int .i64 n.t.pc, .int .i64 n.t.x, .int .i64 n.t.y])] w (RoOut w n) := by
  have HN := Lib.hid h.hold
  have HP := Lib.hid h
  have q := may_parts.1 hm
  have C1 := Lib.hid (fun W => get_any n.t n.t.rt W)
  have hR := Lib.hid (show rootT n.t = te n.t n.t.ep n.t.sg (n.t.rt + 1) from if_neg hr)
  have c0 : IntKind.i64.wrap (n.t.rt + 1) = n.t.rt + 1 := IntWalk.i64_in _ (by omega)
  have c1 : decide (n.t.rt + 1 = 4) = false := decide_eq_false (by omega)
  have c2 : (n.t.rt + 1 == 4) = false := c1
  have C2 := Lib.hid (fun W (hW : Hold W n) (hz : Cl.Sz W) => Sh.shade_any n.s n.d n.k n.xs (getV n.t n.t.rt) W (by have := h.x; omega) hW.h hW.c hz h.fine)
  clear h hm hr q
  go_enter Tryz.func64, Tryz.ntmps64
  go_upto_region 1 with fail
  obtain ⟨W1, hW1⟩ : ∃ W1, W1 = (((((w.alloc (.cells #[.slice n.s.w.a n.s.w.n n.s.w.c, .slice n.s.p.a n.s.p.n n.s.p.c, .slice (n.s.u 0).a (n.s.u 0).n (n.s.u 0).c, .slice (n.s.u 1).a (n.s.u 1).n (n.s.u 1).c, .slice (n.s.u 2).a (n.s.u 2).n (n.s.u 2).c, .slice n.s.c.a n.s.c.n n.s.c.c] 28)).alloc (.cells #[.int .i64 n.k.ph, .int .i64 n.k.ep, .bool n.k.mj, .slice n.k.wk.a n.k.wk.n n.k.wk.c, .bool n.k.ov, .int .i64 n.k.pa, .int .i64 n.k.pf, .int .i64 n.k.ps, .int .i64 n.k.pc, .bool n.k.me] 30)).alloc (.cells #[.bool n.t.lv, .int .i64 (n.t.r 0), .int .i64 (n.t.r 1), .int .i64 (n.t.r 2), .int .i64 (n.t.r 3), .slice (n.t.u 0).a (n.t.u 0).n (n.t.u 0).c, .slice (n.t.u 1).a (n.t.u 1).n (n.t.u 1).c, .slice (n.t.u 2).a (n.t.u 2).n (n.t.u 2).c, .int .i64 n.t.ep, .int .i64 n.t.sg, .int .i64 n.t.rt, .slice n.t.o.a n.t.o.n n.t.o.c, .int .i64 n.t.pc, .int .i64 n.t.x, .int .i64 n.t.y] 34)).alloc (.cells #[.slice none 0 0, .slice none 0 0, .slice none 0 0, .slice none 0 0, .slice none 0 0, .slice none 0 0] 28)).alloc (.cells #[.int .i64 0, .int .i64 0, .bool false, .slice none 0 0, .bool false, .int .i64 0, .int .i64 0, .int .i64 0, .int .i64 0, .bool false] 30)).alloc (.cells #[.bool false, .int .i64 0, .int .i64 0, .int .i64 0, .int .i64 0, .slice none 0 0, .slice none 0 0, .slice none 0 0, .int .i64 0, .int .i64 0, .int .i64 0, .slice none 0 0, .int .i64 0, .int .i64 0, .int .i64 0] 34) := ⟨_, rfl⟩
  have S1 : Hid (W6 w W1 (p6 w.heap.size (w.heap.size + 1) (w.heap.size + 2) (w.heap.size + 3) (w.heap.size + 4) (w.heap.size + 5)) (c6 (hv n.s) (kv n.k) (tv n.t) (hv noHs0) (kv noK0) (tv noT)) [n]) := Lib.hid ((w6_start n hW1).2 HN.out)
  rw [← hW1]
  clear hW1
  have q10 := (show Box _ (w.heap.size + 2) (tv n.t) from S1.out.box 2 (by decide)).cel 10 (.int .i64 n.t.rt) (rfl)
  go_upto_region 2 with (first
    | (refine w_load (ldTb (show Box _ (w.heap.size + 2) (tv n.t) from S1.out.box 2 (by decide))) rfl rfl rfl rfl ?_)
    | ((go_at_call 16); (with_reducible refine (C1.out _).mono ?_); rintro e9 w9 ⟨rfl, hb9⟩; have S2 := Lib.hid (S1.out.next hb9); clear hb9 q10))
  go_upto_region 3 with (first
    | (refine w_load (ldHb (show Box _ (w.heap.size) (hv n.s) from S2.out.box 0 (by decide))) rfl rfl rfl rfl ?_)
    | (refine w_load (ldKb (show Box _ (w.heap.size + 1) (kv n.k) from S2.out.box 1 (by decide))) rfl rfl rfl rfl ?_)
    | ((go_at_call 106); (with_reducible refine (C2.out _ (S2.out.at n (by simp)) (S2.out.over HP.out.sz)).mono ?_); rintro e9 w9 ⟨s', v, rfl, hp9, hl9, hn9, ha9⟩; have S3 := Lib.hid (sh_next S2.out hp9 hn9 ha9); have N3 := Lib.hid (sh_new S2.out hl9 hn9 ha9); clear hp9 hl9 hn9 ha9)
    | (refine w6_putH S3.out 0 (by decide) s' (c' := c6 (hv s') (kv n.k) (tv n.t) (hv noHs0) (kv noK0) (tv noT)) rfl (all6 ⟨rfl, rfl, rfl, rfl, rfl, rfl⟩) rfl rfl rfl rfl rfl ?_; intro W4 h4; have S4 := Lib.hid h4; clear h4 S3)
    | (refine w6_putK S4.out 1 (by decide) (shQ n (getV n.t n.t.rt) s' v).k (c' := c6 (hv s') (kv (shQ n (getV n.t n.t.rt) s' v).k) (tv n.t) (hv noHs0) (kv noK0) (tv noT)) rfl (all6 ⟨rfl, rfl, rfl, rfl, rfl, rfl⟩) rfl rfl rfl rfl rfl ?_; intro W5 h5; have S5 := Lib.hid h5; clear h5 S4))
  have p10 := (show Box _ (w.heap.size + 2) (tv n.t) from S5.out.box 2 (by decide)).cel 10 (.int .i64 n.t.rt) (rfl)
  go_upto_region 4 with (refine w6_int S5.out 2 (by decide) 10 (n.t.rt + 1) (vs := tv (te n.t n.t.ep n.t.sg (n.t.rt + 1))) (c' := c6 (hv s') (kv (shQ n (getV n.t n.t.rt) s' v).k) (tv (te n.t n.t.ep n.t.sg (n.t.rt + 1))) (hv noHs0) (kv noK0) (tv noT)) (show 10 < 15 by decide) rfl (all6 ⟨rfl, rfl, rfl, rfl, rfl, rfl⟩) rfl rfl rfl rfl rfl ?_; intro W6' h6; have S6 := Lib.hid h6; clear h6 S5)
  clear p10
  have p10 := (show Box _ (w.heap.size + 2) (tv (te n.t n.t.ep n.t.sg (n.t.rt + 1))) from S6.out.box 2 (by decide)).cel 10 (.int .i64 (n.t.rt + 1)) (rfl)
  go_upto_region 6 with fail
  clear p10
  have S9 : Hid (W6 w _ (p6 w.heap.size (w.heap.size + 1) (w.heap.size + 2) (w.heap.size + 3) (w.heap.size + 4) (w.heap.size + 5)) (c6 (hv (thQ (shQ n (getV n.t n.t.rt) s' v) (te n.t n.t.ep n.t.sg (n.t.rt + 1))).s) (kv (thQ (shQ n (getV n.t n.t.rt) s' v) (te n.t n.t.ep n.t.sg (n.t.rt + 1))).k) (tv (thQ (shQ n (getV n.t n.t.rt) s' v) (te n.t n.t.ep n.t.sg (n.t.rt + 1))).t) (hv noHs0) (kv noK0) (tv noT)) [(thQ (shQ n (getV n.t n.t.rt) s' v) (te n.t n.t.ep n.t.sg (n.t.rt + 1)))]) := Lib.hid (th_next S6.out (keep_te _ _ _ _))
  clear S6
  have KE := S9
  refine Sh.region_gen fun a0 ha0 => ?_
  have G3 : a0.tmps[3]? = some (.pointer (some ⟨w.heap.size, 0, none⟩)) := by rw [ha0]; rfl
  have G4 : a0.tmps[4]? = some (.pointer (some ⟨w.heap.size + 1, 0, none⟩)) := by rw [ha0]; rfl
  have G5 : a0.tmps[5]? = some (.pointer (some ⟨w.heap.size + 2, 0, none⟩)) := by rw [ha0]; rfl
  have G6 : a0.tmps[6]? = some (.pointer (some ⟨w.heap.size + 3, 0, none⟩)) := by rw [ha0]; rfl
  have G7 : a0.tmps[7]? = some (.pointer (some ⟨w.heap.size + 4, 0, none⟩)) := by rw [ha0]; rfl
  have G8 : a0.tmps[8]? = some (.pointer (some ⟨w.heap.size + 5, 0, none⟩)) := by rw [ha0]; rfl
  have TD : a0.defers = [] := congrArg Act.defers ha0
  have TZ : a0.tmps.size = 37 := by rw [ha0]; rfl
  clear ha0
  refine region_plan (by kernel_rfl) (by kernel_rfl) (by rw [TZ]; kernel_rfl) (fun (_ : Unit) (i : Nat) => (match i with | 0 => (.agg #[.slice (thQ (shQ n (getV n.t n.t.rt) s' v) (te n.t n.t.ep n.t.sg (n.t.rt + 1))).s.w.a (thQ (shQ n (getV n.t n.t.rt) s' v) (te n.t n.t.ep n.t.sg (n.t.rt + 1))).s.w.n (thQ (shQ n (getV n.t n.t.rt) s' v) (te n.t n.t.ep n.t.sg (n.t.rt + 1))).s.w.c, .slice (thQ (shQ n (getV n.t n.t.rt) s' v) (te n.t n.t.ep n.t.sg (n.t.rt + 1))).s.p.a (thQ (shQ n (getV n.t n.t.rt) s' v) (te n.t n.t.ep n.t.sg (n.t.rt + 1))).s.p.n (thQ (shQ n (getV n.t n.t.rt) s' v) (te n.t n.t.ep n.t.sg (n.t.rt + 1))).s.p.c, .slice ((thQ (shQ n (getV n.t n.t.rt) s' v) (te n.t n.t.ep n.t.sg (n.t.rt + 1))).s.u 0).a ((thQ (shQ n (getV n.t n.t.rt) s' v) (te n.t n.t.ep n.t.sg (n.t.rt + 1))).s.u 0).n ((thQ (shQ n (getV n.t n.t.rt) s' v) (te n.t n.t.ep n.t.sg (n.t.rt + 1))).s.u 0).c, .slice ((thQ (shQ n (getV n.t n.t.rt) s' v) (te n.t n.t.ep n.t.sg (n.t.rt + 1))).s.u 1).a ((thQ (shQ n (getV n.t n.t.rt) s' v) (te n.t n.t.ep n.t.sg (n.t.rt + 1))).s.u 1).n ((thQ (shQ n (getV n.t n.t.rt) s' v) (te n.t n.t.ep n.t.sg (n.t.rt + 1))).s.u 1).c, .slice ((thQ (shQ n (getV n.t n.t.rt) s' v) (te n.t n.t.ep n.t.sg (n.t.rt + 1))).s.u 2).a ((thQ (shQ n (getV n.t n.t.rt) s' v) (te n.t n.t.ep n.t.sg (n.t.rt + 1))).s.u 2).n ((thQ (shQ n (getV n.t n.t.rt) s' v) (te n.t n.t.ep n.t.sg (n.t.rt + 1))).s.u 2).c, .slice (thQ (shQ n (getV n.t n.t.rt) s' v) (te n.t n.t.ep n.t.sg (n.t.rt + 1))).s.c.a (thQ (shQ n (getV n.t n.t.rt) s' v) (te n.t n.t.ep n.t.sg (n.t.rt + 1))).s.c.n (thQ (shQ n (getV n.t n.t.rt) s' v) (te n.t n.t.ep n.t.sg (n.t.rt + 1))).s.c.c]) | 1 => (.agg #[.int .i64 (thQ (shQ n (getV n.t n.t.rt) s' v) (te n.t n.t.ep n.t.sg (n.t.rt + 1))).k.ph, .int .i64 (thQ (shQ n (getV n.t n.t.rt) s' v) (te n.t n.t.ep n.t.sg (n.t.rt + 1))).k.ep, .bool (thQ (shQ n (getV n.t n.t.rt) s' v) (te n.t n.t.ep n.t.sg (n.t.rt + 1))).k.mj, .slice (thQ (shQ n (getV n.t n.t.rt) s' v) (te n.t n.t.ep n.t.sg (n.t.rt + 1))).k.wk.a (thQ (shQ n (getV n.t n.t.rt) s' v) (te n.t n.t.ep n.t.sg (n.t.rt + 1))).k.wk.n (thQ (shQ n (getV n.t n.t.rt) s' v) (te n.t n.t.ep n.t.sg (n.t.rt + 1))).k.wk.c, .bool (thQ (shQ n (getV n.t n.t.rt) s' v) (te n.t n.t.ep n.t.sg (n.t.rt + 1))).k.ov, .int .i64 (thQ (shQ n (getV n.t n.t.rt) s' v) (te n.t n.t.ep n.t.sg (n.t.rt + 1))).k.pa, .int .i64 (thQ (shQ n (getV n.t n.t.rt) s' v) (te n.t n.t.ep n.t.sg (n.t.rt + 1))).k.pf, .int .i64 (thQ (shQ n (getV n.t n.t.rt) s' v) (te n.t n.t.ep n.t.sg (n.t.rt + 1))).k.ps, .int .i64 (thQ (shQ n (getV n.t n.t.rt) s' v) (te n.t n.t.ep n.t.sg (n.t.rt + 1))).k.pc, .bool (thQ (shQ n (getV n.t n.t.rt) s' v) (te n.t n.t.ep n.t.sg (n.t.rt + 1))).k.me]) | 2 => (.agg #[.bool ((thQ (shQ n (getV n.t n.t.rt) s' v) (te n.t n.t.ep n.t.sg (n.t.rt + 1))).t).lv, .int .i64 (((thQ (shQ n (getV n.t n.t.rt) s' v) (te n.t n.t.ep n.t.sg (n.t.rt + 1))).t).r 0), .int .i64 (((thQ (shQ n (getV n.t n.t.rt) s' v) (te n.t n.t.ep n.t.sg (n.t.rt + 1))).t).r 1), .int .i64 (((thQ (shQ n (getV n.t n.t.rt) s' v) (te n.t n.t.ep n.t.sg (n.t.rt + 1))).t).r 2), .int .i64 (((thQ (shQ n (getV n.t n.t.rt) s' v) (te n.t n.t.ep n.t.sg (n.t.rt + 1))).t).r 3), .slice (((thQ (shQ n (getV n.t n.t.rt) s' v) (te n.t n.t.ep n.t.sg (n.t.rt + 1))).t).u 0).a (((thQ (shQ n (getV n.t n.t.rt) s' v) (te n.t n.t.ep n.t.sg (n.t.rt + 1))).t).u 0).n (((thQ (shQ n (getV n.t n.t.rt) s' v) (te n.t n.t.ep n.t.sg (n.t.rt + 1))).t).u 0).c, .slice (((thQ (shQ n (getV n.t n.t.rt) s' v) (te n.t n.t.ep n.t.sg (n.t.rt + 1))).t).u 1).a (((thQ (shQ n (getV n.t n.t.rt) s' v) (te n.t n.t.ep n.t.sg (n.t.rt + 1))).t).u 1).n (((thQ (shQ n (getV n.t n.t.rt) s' v) (te n.t n.t.ep n.t.sg (n.t.rt + 1))).t).u 1).c, .slice (((thQ (shQ n (getV n.t n.t.rt) s' v) (te n.t n.t.ep n.t.sg (n.t.rt + 1))).t).u 2).a (((thQ (shQ n (getV n.t n.t.rt) s' v) (te n.t n.t.ep n.t.sg (n.t.rt + 1))).t).u 2).n (((thQ (shQ n (getV n.t n.t.rt) s' v) (te n.t n.t.ep n.t.sg (n.t.rt + 1))).t).u 2).c, .int .i64 ((thQ (shQ n (getV n.t n.t.rt) s' v) (te n.t n.t.ep n.t.sg (n.t.rt + 1))).t).ep, .int .i64 ((thQ (shQ n (getV n.t n.t.rt) s' v) (te n.t n.t.ep n.t.sg (n.t.rt + 1))).t).sg, .int .i64 ((thQ (shQ n (getV n.t n.t.rt) s' v) (te n.t n.t.ep n.t.sg (n.t.rt + 1))).t).rt, .slice ((thQ (shQ n (getV n.t n.t.rt) s' v) (te n.t n.t.ep n.t.sg (n.t.rt + 1))).t).o.a ((thQ (shQ n (getV n.t n.t.rt) s' v) (te n.t n.t.ep n.t.sg (n.t.rt + 1))).t).o.n ((thQ (shQ n (getV n.t n.t.rt) s' v) (te n.t n.t.ep n.t.sg (n.t.rt + 1))).t).o.c, .int .i64 ((thQ (shQ n (getV n.t n.t.rt) s' v) (te n.t n.t.ep n.t.sg (n.t.rt + 1))).t).pc, .int .i64 ((thQ (shQ n (getV n.t n.t.rt) s' v) (te n.t n.t.ep n.t.sg (n.t.rt + 1))).t).x, .int .i64 ((thQ (shQ n (getV n.t n.t.rt) s' v) (te n.t n.t.ep n.t.sg (n.t.rt + 1))).t).y]) | _ => undef : Value)) (fun _ l W => R6 w (p6 w.heap.size (w.heap.size + 1) (w.heap.size + 2) (w.heap.size + 3) (w.heap.size + 4) (w.heap.size + 5)) (thQ (shQ n (getV n.t n.t.rt) s' v) (te n.t n.t.ep n.t.sg (n.t.rt + 1))) l W) () ?start ?step ?done
  case start => exact r6_start (KE.out.next ⟨rfl, rfl, rfl, Nat.le_refl _, fun _ _ => rfl⟩)
  case step =>
    rintro i o9 l a9 _ W9 ho hP hI hl haft K hK
    have hi : i < 6 := (Array.getElem?_eq_some_iff.1 ho).1
    rcases (show i = 0 ∨ i = 1 ∨ i = 2 ∨ i = 3 ∨ i = 4 ∨ i = 5 by omega) with rfl | rfl | rfl | rfl | rfl | rfl
    · obtain rfl := Option.some.inj ho
      have q9 := (hP.keep (j := 3) (by kernel_rfl)).trans G3
      exact p_load rfl (ev q9) (ldHb (show Box W9 (w.heap.size) (hv (thQ (shQ n (getV n.t n.t.rt) s' v) (te n.t n.t.ep n.t.sg (n.t.rt + 1))).s) from hI.st.box 0 (by decide))) (hK () _ (fun _ _ => rfl) (hI.pure (i := 0) (by decide)))
    · obtain rfl := Option.some.inj ho
      have q9 := (hP.keep (j := 4) (by kernel_rfl)).trans G4
      exact p_load rfl (ev q9) (ldKb (show Box W9 (w.heap.size + 1) (kv (thQ (shQ n (getV n.t n.t.rt) s' v) (te n.t n.t.ep n.t.sg (n.t.rt + 1))).k) from hI.st.box 1 (by decide))) (hK () _ (fun _ _ => rfl) (hI.pure (i := 1) (by decide)))
    · obtain rfl := Option.some.inj ho
      have q9 := (hP.keep (j := 5) (by kernel_rfl)).trans G5
      exact p_load rfl (ev q9) (ldTb (show Box W9 (w.heap.size + 2) (tv (thQ (shQ n (getV n.t n.t.rt) s' v) (te n.t n.t.ep n.t.sg (n.t.rt + 1))).t) from hI.st.box 2 (by decide))) (hK () _ (fun _ _ => rfl) (hI.pure (i := 2) (by decide)))
    · obtain rfl := Option.some.inj ho
      have e9 := hP.got 0 _ 34 rfl (haft ⟨0, .data⟩ (by simp) rfl) rfl
      try dsimp only at e9
      have q9 := (hP.keep (j := 6) (by kernel_rfl)).trans G6
      exact p_store rfl (ev q9) (ev e9) (stHb (show Box W9 (w.heap.size + 3) _ from hI.st.box 3 (by decide)) sel_h ((thQ (shQ n (getV n.t n.t.rt) s' v) (te n.t n.t.ep n.t.sg (n.t.rt + 1))).s)) (hK () _ (fun _ _ => rfl) hI.put3)
    · obtain rfl := Option.some.inj ho
      have e9 := hP.got 1 _ 35 rfl (haft ⟨1, .data⟩ (by simp) rfl) rfl
      try dsimp only at e9
      have q9 := (hP.keep (j := 7) (by kernel_rfl)).trans G7
      exact p_store rfl (ev q9) (ev e9) (stKb (show Box W9 (w.heap.size + 4) _ from hI.st.box 4 (by decide)) sel_k ((thQ (shQ n (getV n.t n.t.rt) s' v) (te n.t n.t.ep n.t.sg (n.t.rt + 1))).k)) (hK () _ (fun _ _ => rfl) hI.put4)
    · obtain rfl := Option.some.inj ho
      have e9 := hP.got 2 _ 36 rfl (haft ⟨2, .data⟩ (by simp) rfl) rfl
      try dsimp only at e9
      have q9 := (hP.keep (j := 8) (by kernel_rfl)).trans G8
      exact p_store rfl (ev q9) (ev e9) (stTb (show Box W9 (w.heap.size + 5) _ from hI.st.box 5 (by decide)) sel_t ((thQ (shQ n (getV n.t n.t.rt) s' v) (te n.t n.t.ep n.t.sg (n.t.rt + 1))).t)) (hK () _ (fun _ _ => rfl) hI.put5)
  case done =>
    rintro l a9 _ W9 hP hI hall
    have t6 := (hP.keep (j := 6) (by kernel_rfl)).trans G6
    have t7 := (hP.keep (j := 7) (by kernel_rfl)).trans G7
    have t8 := (hP.keep (j := 8) (by kernel_rfl)).trans G8
    have td := hP.df.trans TD
    have D9 := Lib.hid (hI.done (hall 3 (by decide)) (hall 4 (by decide)) (hall 5 (by decide)))
    clear hP hI hall
    go_wp2
    exact bodyPost_ret (res3 rfl t6 t7 t8 (show Box W9 (w.heap.size + 3) (hv (thQ (shQ n (getV n.t n.t.rt) s' v) (te n.t n.t.ep n.t.sg (n.t.rt + 1))).s) from D9.out.box 3 (by decide)) (show Box W9 (w.heap.size + 4) (kv (thQ (shQ n (getV n.t n.t.rt) s' v) (te n.t n.t.ep n.t.sg (n.t.rt + 1))).k) from D9.out.box 4 (by decide)) (show Box W9 (w.heap.size + 5) (tv (thQ (shQ n (getV n.t n.t.rt) s' v) (te n.t n.t.ep n.t.sg (n.t.rt + 1))).t) from D9.out.box 5 (by decide))) td ⟨s', v, _, rfl, by rw [hR.out], N3.out.1, D9.out.at _ (by simp), N3.out.2.1, N3.out.2.2, D9.out.bel⟩
set_option maxHeartbeats 1000000 in
theorem root_last (n : Q3) (w : World) (h : Pre w n) (hm : mayT n.t = true) (hr : n.t.rt = 3) : Calls Tryz.prog 64 #[(.agg #[.slice n.s.w.a n.s.w.n n.s.w.c, .slice n.s.p.a n.s.p.n n.s.p.c, .slice (n.s.u 0).a (n.s.u 0).n (n.s.u 0).c, .slice (n.s.u 1).a (n.s.u 1).n (n.s.u 1).c, .slice (n.s.u 2).a (n.s.u 2).n (n.s.u 2).c, .slice n.s.c.a n.s.c.n n.s.c.c]), (.agg #[.int .i64 n.k.ph, .int .i64 n.k.ep, .bool n.k.mj, .slice n.k.wk.a n.k.wk.n n.k.wk.c, .bool n.k.ov, .int .i64 n.k.pa, .int .i64 n.k.pf, .int .i64 n.k.ps, .int .i64 n.k.pc, .bool n.k.me]), (.agg #[.bool n.t.lv, .int .i64 (n.t.r 0), .int .i64 (n.t.r 1), .int .i64 (n.t.r 2), .int .i64 (n.t.r 3), .slice (n.t.u 0).a (n.t.u 0).n (n.t.u 0).c, .slice (n.t.u 1).a (n.t.u 1).n (n.t.u 1).c, .slice (n.t.u 2).a (n.t.u 2).n (n.t.u 2).c, .int .i64 n.t.ep, .int .i64 n.t.sg, .int .i64 n.t.rt, .slice n.t.o.a n.t.o.n n.t.o.c, .int .i64 n.t.pc, .int .i64 n.t.x, .int .i64 n.t.y])] w (RoOut w n) := by
  have HN := Lib.hid h.hold
  have HP := Lib.hid h
  have q := may_parts.1 hm
  have C1 := Lib.hid (fun W => get_any n.t n.t.rt W)
  have hR := Lib.hid (show rootT n.t = te n.t n.t.ep 3 0 from if_pos hr)
  have HR := Lib.hid hr
  have C2 := Lib.hid (fun W (hW : Hold W n) (hz : Cl.Sz W) => Sh.shade_any n.s n.d n.k n.xs (getV n.t n.t.rt) W (by have := h.x; omega) hW.h hW.c hz h.fine)
  clear h hm hr q
  go_enter Tryz.func64, Tryz.ntmps64
  go_upto_region 1 with fail
  obtain ⟨W1, hW1⟩ : ∃ W1, W1 = (((((w.alloc (.cells #[.slice n.s.w.a n.s.w.n n.s.w.c, .slice n.s.p.a n.s.p.n n.s.p.c, .slice (n.s.u 0).a (n.s.u 0).n (n.s.u 0).c, .slice (n.s.u 1).a (n.s.u 1).n (n.s.u 1).c, .slice (n.s.u 2).a (n.s.u 2).n (n.s.u 2).c, .slice n.s.c.a n.s.c.n n.s.c.c] 28)).alloc (.cells #[.int .i64 n.k.ph, .int .i64 n.k.ep, .bool n.k.mj, .slice n.k.wk.a n.k.wk.n n.k.wk.c, .bool n.k.ov, .int .i64 n.k.pa, .int .i64 n.k.pf, .int .i64 n.k.ps, .int .i64 n.k.pc, .bool n.k.me] 30)).alloc (.cells #[.bool n.t.lv, .int .i64 (n.t.r 0), .int .i64 (n.t.r 1), .int .i64 (n.t.r 2), .int .i64 (n.t.r 3), .slice (n.t.u 0).a (n.t.u 0).n (n.t.u 0).c, .slice (n.t.u 1).a (n.t.u 1).n (n.t.u 1).c, .slice (n.t.u 2).a (n.t.u 2).n (n.t.u 2).c, .int .i64 n.t.ep, .int .i64 n.t.sg, .int .i64 n.t.rt, .slice n.t.o.a n.t.o.n n.t.o.c, .int .i64 n.t.pc, .int .i64 n.t.x, .int .i64 n.t.y] 34)).alloc (.cells #[.slice none 0 0, .slice none 0 0, .slice none 0 0, .slice none 0 0, .slice none 0 0, .slice none 0 0] 28)).alloc (.cells #[.int .i64 0, .int .i64 0, .bool false, .slice none 0 0, .bool false, .int .i64 0, .int .i64 0, .int .i64 0, .int .i64 0, .bool false] 30)).alloc (.cells #[.bool false, .int .i64 0, .int .i64 0, .int .i64 0, .int .i64 0, .slice none 0 0, .slice none 0 0, .slice none 0 0, .int .i64 0, .int .i64 0, .int .i64 0, .slice none 0 0, .int .i64 0, .int .i64 0, .int .i64 0] 34) := ⟨_, rfl⟩
  have S1 : Hid (W6 w W1 (p6 w.heap.size (w.heap.size + 1) (w.heap.size + 2) (w.heap.size + 3) (w.heap.size + 4) (w.heap.size + 5)) (c6 (hv n.s) (kv n.k) (tv n.t) (hv noHs0) (kv noK0) (tv noT)) [n]) := Lib.hid ((w6_start n hW1).2 HN.out)
  rw [← hW1]
  clear hW1
  have q10 := (show Box _ (w.heap.size + 2) (tv n.t) from S1.out.box 2 (by decide)).cel 10 (.int .i64 n.t.rt) (rfl)
  go_upto_region 2 with (first
    | (refine w_load (ldTb (show Box _ (w.heap.size + 2) (tv n.t) from S1.out.box 2 (by decide))) rfl rfl rfl rfl ?_)
    | ((go_at_call 16); (with_reducible refine (C1.out _).mono ?_); rintro e9 w9 ⟨rfl, hb9⟩; have S2 := Lib.hid (S1.out.next hb9); clear hb9 q10))
  go_upto_region 3 with (first
    | (refine w_load (ldHb (show Box _ (w.heap.size) (hv n.s) from S2.out.box 0 (by decide))) rfl rfl rfl rfl ?_)
    | (refine w_load (ldKb (show Box _ (w.heap.size + 1) (kv n.k) from S2.out.box 1 (by decide))) rfl rfl rfl rfl ?_)
    | ((go_at_call 106); (with_reducible refine (C2.out _ (S2.out.at n (by simp)) (S2.out.over HP.out.sz)).mono ?_); rintro e9 w9 ⟨s', v, rfl, hp9, hl9, hn9, ha9⟩; have S3 := Lib.hid (sh_next S2.out hp9 hn9 ha9); have N3 := Lib.hid (sh_new S2.out hl9 hn9 ha9); clear hp9 hl9 hn9 ha9)
    | (refine w6_putH S3.out 0 (by decide) s' (c' := c6 (hv s') (kv n.k) (tv n.t) (hv noHs0) (kv noK0) (tv noT)) rfl (all6 ⟨rfl, rfl, rfl, rfl, rfl, rfl⟩) rfl rfl rfl rfl rfl ?_; intro W4 h4; have S4 := Lib.hid h4; clear h4 S3)
    | (refine w6_putK S4.out 1 (by decide) (shQ n (getV n.t n.t.rt) s' v).k (c' := c6 (hv s') (kv (shQ n (getV n.t n.t.rt) s' v).k) (tv n.t) (hv noHs0) (kv noK0) (tv noT)) rfl (all6 ⟨rfl, rfl, rfl, rfl, rfl, rfl⟩) rfl rfl rfl rfl rfl ?_; intro W5 h5; have S5 := Lib.hid h5; clear h5 S4))
  have p10 := (show Box _ (w.heap.size + 2) (tv n.t) from S5.out.box 2 (by decide)).cel 10 (.int .i64 3) (by rw [← HR.out]; rfl)
  go_upto_region 4 with (refine w6_int S5.out 2 (by decide) 10 (4) (vs := tv (te n.t n.t.ep n.t.sg 4)) (c' := c6 (hv s') (kv (shQ n (getV n.t n.t.rt) s' v).k) (tv (te n.t n.t.ep n.t.sg 4)) (hv noHs0) (kv noK0) (tv noT)) (show 10 < 15 by decide) rfl (all6 ⟨rfl, rfl, rfl, rfl, rfl, rfl⟩) rfl rfl rfl rfl rfl ?_; intro W6' h6; have S6 := Lib.hid h6; clear h6 S5)
  clear p10
  have p10 := (show Box _ (w.heap.size + 2) (tv (te n.t n.t.ep n.t.sg 4)) from S6.out.box 2 (by decide)).cel 10 (.int .i64 4) (rfl)
  go_upto_region 5 with fail
  clear p10
  go_upto_region 6 with (first
    | (refine w6_int S6.out 2 (by decide) 10 (0) (vs := tv (te n.t n.t.ep n.t.sg 0)) (c' := c6 (hv s') (kv (shQ n (getV n.t n.t.rt) s' v).k) (tv (te n.t n.t.ep n.t.sg 0)) (hv noHs0) (kv noK0) (tv noT)) (show 10 < 15 by decide) rfl (all6 ⟨rfl, rfl, rfl, rfl, rfl, rfl⟩) rfl rfl rfl rfl rfl ?_; intro W7 h6; have S7 := Lib.hid h6; clear h6 S6)
    | (refine w6_int S7.out 2 (by decide) 9 (3) (vs := tv (te n.t n.t.ep 3 0)) (c' := c6 (hv s') (kv (shQ n (getV n.t n.t.rt) s' v).k) (tv (te n.t n.t.ep 3 0)) (hv noHs0) (kv noK0) (tv noT)) (show 9 < 15 by decide) rfl (all6 ⟨rfl, rfl, rfl, rfl, rfl, rfl⟩) rfl rfl rfl rfl rfl ?_; intro W8 h6; have S8 := Lib.hid h6; clear h6 S7))
  have S9 : Hid (W6 w _ (p6 w.heap.size (w.heap.size + 1) (w.heap.size + 2) (w.heap.size + 3) (w.heap.size + 4) (w.heap.size + 5)) (c6 (hv (thQ (shQ n (getV n.t n.t.rt) s' v) (te n.t n.t.ep 3 0)).s) (kv (thQ (shQ n (getV n.t n.t.rt) s' v) (te n.t n.t.ep 3 0)).k) (tv (thQ (shQ n (getV n.t n.t.rt) s' v) (te n.t n.t.ep 3 0)).t) (hv noHs0) (kv noK0) (tv noT)) [(thQ (shQ n (getV n.t n.t.rt) s' v) (te n.t n.t.ep 3 0))]) := Lib.hid (th_next S8.out (keep_te _ _ _ _))
  clear S8
  have KE := S9
  refine Sh.region_gen fun a0 ha0 => ?_
  have G3 : a0.tmps[3]? = some (.pointer (some ⟨w.heap.size, 0, none⟩)) := by rw [ha0]; rfl
  have G4 : a0.tmps[4]? = some (.pointer (some ⟨w.heap.size + 1, 0, none⟩)) := by rw [ha0]; rfl
  have G5 : a0.tmps[5]? = some (.pointer (some ⟨w.heap.size + 2, 0, none⟩)) := by rw [ha0]; rfl
  have G6 : a0.tmps[6]? = some (.pointer (some ⟨w.heap.size + 3, 0, none⟩)) := by rw [ha0]; rfl
  have G7 : a0.tmps[7]? = some (.pointer (some ⟨w.heap.size + 4, 0, none⟩)) := by rw [ha0]; rfl
  have G8 : a0.tmps[8]? = some (.pointer (some ⟨w.heap.size + 5, 0, none⟩)) := by rw [ha0]; rfl
  have TD : a0.defers = [] := congrArg Act.defers ha0
  have TZ : a0.tmps.size = 37 := by rw [ha0]; rfl
  clear ha0
  refine region_plan (by kernel_rfl) (by kernel_rfl) (by rw [TZ]; kernel_rfl) (fun (_ : Unit) (i : Nat) => (match i with | 0 => (.agg #[.slice (thQ (shQ n (getV n.t n.t.rt) s' v) (te n.t n.t.ep 3 0)).s.w.a (thQ (shQ n (getV n.t n.t.rt) s' v) (te n.t n.t.ep 3 0)).s.w.n (thQ (shQ n (getV n.t n.t.rt) s' v) (te n.t n.t.ep 3 0)).s.w.c, .slice (thQ (shQ n (getV n.t n.t.rt) s' v) (te n.t n.t.ep 3 0)).s.p.a (thQ (shQ n (getV n.t n.t.rt) s' v) (te n.t n.t.ep 3 0)).s.p.n (thQ (shQ n (getV n.t n.t.rt) s' v) (te n.t n.t.ep 3 0)).s.p.c, .slice ((thQ (shQ n (getV n.t n.t.rt) s' v) (te n.t n.t.ep 3 0)).s.u 0).a ((thQ (shQ n (getV n.t n.t.rt) s' v) (te n.t n.t.ep 3 0)).s.u 0).n ((thQ (shQ n (getV n.t n.t.rt) s' v) (te n.t n.t.ep 3 0)).s.u 0).c, .slice ((thQ (shQ n (getV n.t n.t.rt) s' v) (te n.t n.t.ep 3 0)).s.u 1).a ((thQ (shQ n (getV n.t n.t.rt) s' v) (te n.t n.t.ep 3 0)).s.u 1).n ((thQ (shQ n (getV n.t n.t.rt) s' v) (te n.t n.t.ep 3 0)).s.u 1).c, .slice ((thQ (shQ n (getV n.t n.t.rt) s' v) (te n.t n.t.ep 3 0)).s.u 2).a ((thQ (shQ n (getV n.t n.t.rt) s' v) (te n.t n.t.ep 3 0)).s.u 2).n ((thQ (shQ n (getV n.t n.t.rt) s' v) (te n.t n.t.ep 3 0)).s.u 2).c, .slice (thQ (shQ n (getV n.t n.t.rt) s' v) (te n.t n.t.ep 3 0)).s.c.a (thQ (shQ n (getV n.t n.t.rt) s' v) (te n.t n.t.ep 3 0)).s.c.n (thQ (shQ n (getV n.t n.t.rt) s' v) (te n.t n.t.ep 3 0)).s.c.c]) | 1 => (.agg #[.int .i64 (thQ (shQ n (getV n.t n.t.rt) s' v) (te n.t n.t.ep 3 0)).k.ph, .int .i64 (thQ (shQ n (getV n.t n.t.rt) s' v) (te n.t n.t.ep 3 0)).k.ep, .bool (thQ (shQ n (getV n.t n.t.rt) s' v) (te n.t n.t.ep 3 0)).k.mj, .slice (thQ (shQ n (getV n.t n.t.rt) s' v) (te n.t n.t.ep 3 0)).k.wk.a (thQ (shQ n (getV n.t n.t.rt) s' v) (te n.t n.t.ep 3 0)).k.wk.n (thQ (shQ n (getV n.t n.t.rt) s' v) (te n.t n.t.ep 3 0)).k.wk.c, .bool (thQ (shQ n (getV n.t n.t.rt) s' v) (te n.t n.t.ep 3 0)).k.ov, .int .i64 (thQ (shQ n (getV n.t n.t.rt) s' v) (te n.t n.t.ep 3 0)).k.pa, .int .i64 (thQ (shQ n (getV n.t n.t.rt) s' v) (te n.t n.t.ep 3 0)).k.pf, .int .i64 (thQ (shQ n (getV n.t n.t.rt) s' v) (te n.t n.t.ep 3 0)).k.ps, .int .i64 (thQ (shQ n (getV n.t n.t.rt) s' v) (te n.t n.t.ep 3 0)).k.pc, .bool (thQ (shQ n (getV n.t n.t.rt) s' v) (te n.t n.t.ep 3 0)).k.me]) | 2 => (.agg #[.bool ((thQ (shQ n (getV n.t n.t.rt) s' v) (te n.t n.t.ep 3 0)).t).lv, .int .i64 (((thQ (shQ n (getV n.t n.t.rt) s' v) (te n.t n.t.ep 3 0)).t).r 0), .int .i64 (((thQ (shQ n (getV n.t n.t.rt) s' v) (te n.t n.t.ep 3 0)).t).r 1), .int .i64 (((thQ (shQ n (getV n.t n.t.rt) s' v) (te n.t n.t.ep 3 0)).t).r 2), .int .i64 (((thQ (shQ n (getV n.t n.t.rt) s' v) (te n.t n.t.ep 3 0)).t).r 3), .slice (((thQ (shQ n (getV n.t n.t.rt) s' v) (te n.t n.t.ep 3 0)).t).u 0).a (((thQ (shQ n (getV n.t n.t.rt) s' v) (te n.t n.t.ep 3 0)).t).u 0).n (((thQ (shQ n (getV n.t n.t.rt) s' v) (te n.t n.t.ep 3 0)).t).u 0).c, .slice (((thQ (shQ n (getV n.t n.t.rt) s' v) (te n.t n.t.ep 3 0)).t).u 1).a (((thQ (shQ n (getV n.t n.t.rt) s' v) (te n.t n.t.ep 3 0)).t).u 1).n (((thQ (shQ n (getV n.t n.t.rt) s' v) (te n.t n.t.ep 3 0)).t).u 1).c, .slice (((thQ (shQ n (getV n.t n.t.rt) s' v) (te n.t n.t.ep 3 0)).t).u 2).a (((thQ (shQ n (getV n.t n.t.rt) s' v) (te n.t n.t.ep 3 0)).t).u 2).n (((thQ (shQ n (getV n.t n.t.rt) s' v) (te n.t n.t.ep 3 0)).t).u 2).c, .int .i64 ((thQ (shQ n (getV n.t n.t.rt) s' v) (te n.t n.t.ep 3 0)).t).ep, .int .i64 ((thQ (shQ n (getV n.t n.t.rt) s' v) (te n.t n.t.ep 3 0)).t).sg, .int .i64 ((thQ (shQ n (getV n.t n.t.rt) s' v) (te n.t n.t.ep 3 0)).t).rt, .slice ((thQ (shQ n (getV n.t n.t.rt) s' v) (te n.t n.t.ep 3 0)).t).o.a ((thQ (shQ n (getV n.t n.t.rt) s' v) (te n.t n.t.ep 3 0)).t).o.n ((thQ (shQ n (getV n.t n.t.rt) s' v) (te n.t n.t.ep 3 0)).t).o.c, .int .i64 ((thQ (shQ n (getV n.t n.t.rt) s' v) (te n.t n.t.ep 3 0)).t).pc, .int .i64 ((thQ (shQ n (getV n.t n.t.rt) s' v) (te n.t n.t.ep 3 0)).t).x, .int .i64 ((thQ (shQ n (getV n.t n.t.rt) s' v) (te n.t n.t.ep 3 0)).t).y]) | _ => undef : Value)) (fun _ l W => R6 w (p6 w.heap.size (w.heap.size + 1) (w.heap.size + 2) (w.heap.size + 3) (w.heap.size + 4) (w.heap.size + 5)) (thQ (shQ n (getV n.t n.t.rt) s' v) (te n.t n.t.ep 3 0)) l W) () ?start ?step ?done
  case start => exact r6_start (KE.out.next ⟨rfl, rfl, rfl, Nat.le_refl _, fun _ _ => rfl⟩)
  case step =>
    rintro i o9 l a9 _ W9 ho hP hI hl haft K hK
    have hi : i < 6 := (Array.getElem?_eq_some_iff.1 ho).1
    rcases (show i = 0 ∨ i = 1 ∨ i = 2 ∨ i = 3 ∨ i = 4 ∨ i = 5 by omega) with rfl | rfl | rfl | rfl | rfl | rfl
    · obtain rfl := Option.some.inj ho
      have q9 := (hP.keep (j := 3) (by kernel_rfl)).trans G3
      exact p_load rfl (ev q9) (ldHb (show Box W9 (w.heap.size) (hv (thQ (shQ n (getV n.t n.t.rt) s' v) (te n.t n.t.ep 3 0)).s) from hI.st.box 0 (by decide))) (hK () _ (fun _ _ => rfl) (hI.pure (i := 0) (by decide)))
    · obtain rfl := Option.some.inj ho
      have q9 := (hP.keep (j := 4) (by kernel_rfl)).trans G4
      exact p_load rfl (ev q9) (ldKb (show Box W9 (w.heap.size + 1) (kv (thQ (shQ n (getV n.t n.t.rt) s' v) (te n.t n.t.ep 3 0)).k) from hI.st.box 1 (by decide))) (hK () _ (fun _ _ => rfl) (hI.pure (i := 1) (by decide)))
    · obtain rfl := Option.some.inj ho
      have q9 := (hP.keep (j := 5) (by kernel_rfl)).trans G5
      exact p_load rfl (ev q9) (ldTb (show Box W9 (w.heap.size + 2) (tv (thQ (shQ n (getV n.t n.t.rt) s' v) (te n.t n.t.ep 3 0)).t) from hI.st.box 2 (by decide))) (hK () _ (fun _ _ => rfl) (hI.pure (i := 2) (by decide)))
    · obtain rfl := Option.some.inj ho
      have e9 := hP.got 0 _ 34 rfl (haft ⟨0, .data⟩ (by simp) rfl) rfl
      try dsimp only at e9
      have q9 := (hP.keep (j := 6) (by kernel_rfl)).trans G6
      exact p_store rfl (ev q9) (ev e9) (stHb (show Box W9 (w.heap.size + 3) _ from hI.st.box 3 (by decide)) sel_h ((thQ (shQ n (getV n.t n.t.rt) s' v) (te n.t n.t.ep 3 0)).s)) (hK () _ (fun _ _ => rfl) hI.put3)
    · obtain rfl := Option.some.inj ho
      have e9 := hP.got 1 _ 35 rfl (haft ⟨1, .data⟩ (by simp) rfl) rfl
      try dsimp only at e9
      have q9 := (hP.keep (j := 7) (by kernel_rfl)).trans G7
      exact p_store rfl (ev q9) (ev e9) (stKb (show Box W9 (w.heap.size + 4) _ from hI.st.box 4 (by decide)) sel_k ((thQ (shQ n (getV n.t n.t.rt) s' v) (te n.t n.t.ep 3 0)).k)) (hK () _ (fun _ _ => rfl) hI.put4)
    · obtain rfl := Option.some.inj ho
      have e9 := hP.got 2 _ 36 rfl (haft ⟨2, .data⟩ (by simp) rfl) rfl
      try dsimp only at e9
      have q9 := (hP.keep (j := 8) (by kernel_rfl)).trans G8
      exact p_store rfl (ev q9) (ev e9) (stTb (show Box W9 (w.heap.size + 5) _ from hI.st.box 5 (by decide)) sel_t ((thQ (shQ n (getV n.t n.t.rt) s' v) (te n.t n.t.ep 3 0)).t)) (hK () _ (fun _ _ => rfl) hI.put5)
  case done =>
    rintro l a9 _ W9 hP hI hall
    have t6 := (hP.keep (j := 6) (by kernel_rfl)).trans G6
    have t7 := (hP.keep (j := 7) (by kernel_rfl)).trans G7
    have t8 := (hP.keep (j := 8) (by kernel_rfl)).trans G8
    have td := hP.df.trans TD
    have D9 := Lib.hid (hI.done (hall 3 (by decide)) (hall 4 (by decide)) (hall 5 (by decide)))
    clear hP hI hall
    go_wp2
    exact bodyPost_ret (res3 rfl t6 t7 t8 (show Box W9 (w.heap.size + 3) (hv (thQ (shQ n (getV n.t n.t.rt) s' v) (te n.t n.t.ep 3 0)).s) from D9.out.box 3 (by decide)) (show Box W9 (w.heap.size + 4) (kv (thQ (shQ n (getV n.t n.t.rt) s' v) (te n.t n.t.ep 3 0)).k) from D9.out.box 4 (by decide)) (show Box W9 (w.heap.size + 5) (tv (thQ (shQ n (getV n.t n.t.rt) s' v) (te n.t n.t.ep 3 0)).t) from D9.out.box 5 (by decide))) td ⟨s', v, _, rfl, by rw [hR.out], N3.out.1, D9.out.at _ (by simp), N3.out.2.1, N3.out.2.2, D9.out.bel⟩
theorem root_any (n : Q3) (w : World) (h : Pre w n) (hm : mayT n.t = true) : Calls Tryz.prog 64 #[(.agg #[.slice n.s.w.a n.s.w.n n.s.w.c, .slice n.s.p.a n.s.p.n n.s.p.c, .slice (n.s.u 0).a (n.s.u 0).n (n.s.u 0).c, .slice (n.s.u 1).a (n.s.u 1).n (n.s.u 1).c, .slice (n.s.u 2).a (n.s.u 2).n (n.s.u 2).c, .slice n.s.c.a n.s.c.n n.s.c.c]), (.agg #[.int .i64 n.k.ph, .int .i64 n.k.ep, .bool n.k.mj, .slice n.k.wk.a n.k.wk.n n.k.wk.c, .bool n.k.ov, .int .i64 n.k.pa, .int .i64 n.k.pf, .int .i64 n.k.ps, .int .i64 n.k.pc, .bool n.k.me]), (.agg #[.bool n.t.lv, .int .i64 (n.t.r 0), .int .i64 (n.t.r 1), .int .i64 (n.t.r 2), .int .i64 (n.t.r 3), .slice (n.t.u 0).a (n.t.u 0).n (n.t.u 0).c, .slice (n.t.u 1).a (n.t.u 1).n (n.t.u 1).c, .slice (n.t.u 2).a (n.t.u 2).n (n.t.u 2).c, .int .i64 n.t.ep, .int .i64 n.t.sg, .int .i64 n.t.rt, .slice n.t.o.a n.t.o.n n.t.o.c, .int .i64 n.t.pc, .int .i64 n.t.x, .int .i64 n.t.y])] w (RoOut w n) := by
  by_cases hr : n.t.rt = 3
  · exact root_last n w h hm hr
  · exact root_next n w h hm hr
end Go.Proofs.YtgmkomnoiffapaaGreatDoor.Ha
