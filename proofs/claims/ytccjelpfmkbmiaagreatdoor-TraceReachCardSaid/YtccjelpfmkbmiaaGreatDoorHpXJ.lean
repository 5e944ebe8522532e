/-
  Merged texts: TrFn2, TrMid.
-/
import Derived.Test.YtccjelpfmkbmiaaGreatDoorHpXI
section
namespace Go.Proofs.YtccjelpfmkbmiaaGreatDoor.Tr
open Go.Proofs.YtccjelpfmkbmiaaGreatDoor Go.Proofs.YtccjelpfmkbmiaaGreatDoor.Rt
open Go.RowKit
open Go.Proofs.YtccjelpfmkbmiaaGreatDoor.Mu (hv kv w_load w_store w_loadg ldHb ldKb stHb stKb st_int ld_int p_load p_store ev region_plan noHs0 noK0)
set_option maxRecDepth 100000

set_option maxHeartbeats 1000000 in
theorem last_any (k : Sh.Ks) (xs : List Int) (m : Nat) (x : Int) (w : World) (hm : k.wk.n = m + 1) (hx : xs.getD m 0 = x) (hr : Sh.WRow w w.heap.size k xs) (hc : m + 1 ≤ k.wk.c) (hm2 : m ≤ 2000000) : Calls Tryz.prog 73 #[(.agg #[.int .i64 k.ph, .int .i64 k.ep, .bool k.mj, .slice k.wk.a k.wk.n k.wk.c, .bool k.ov, .int .i64 k.pa, .int .i64 k.pf, .int .i64 k.ps, .int .i64 k.pc, .bool k.me])] w fun e w' => e = .returned (.agg #[.int .i64 (kp (Sh.kw k ⟨k.wk.a, m, k.wk.c⟩ k.ov) x 0).ph, .int .i64 (kp (Sh.kw k ⟨k.wk.a, m, k.wk.c⟩ k.ov) x 0).ep, .bool (kp (Sh.kw k ⟨k.wk.a, m, k.wk.c⟩ k.ov) x 0).mj, .slice (kp (Sh.kw k ⟨k.wk.a, m, k.wk.c⟩ k.ov) x 0).wk.a (kp (Sh.kw k ⟨k.wk.a, m, k.wk.c⟩ k.ov) x 0).wk.n (kp (Sh.kw k ⟨k.wk.a, m, k.wk.c⟩ k.ov) x 0).wk.c, .bool (kp (Sh.kw k ⟨k.wk.a, m, k.wk.c⟩ k.ov) x 0).ov, .int .i64 (kp (Sh.kw k ⟨k.wk.a, m, k.wk.c⟩ k.ov) x 0).pa, .int .i64 (kp (Sh.kw k ⟨k.wk.a, m, k.wk.c⟩ k.ov) x 0).pf, .int .i64 (kp (Sh.kw k ⟨k.wk.a, m, k.wk.c⟩ k.ov) x 0).ps, .int .i64 (kp (Sh.kw k ⟨k.wk.a, m, k.wk.c⟩ k.ov) x 0).pc, .bool (kp (Sh.kw k ⟨k.wk.a, m, k.wk.c⟩ k.ov) x 0).me]) ∧ Below w.heap.size w w' := by
  obtain ⟨b, off, hA, hlt, hcell⟩ := hr.2 (by omega)
  have hcl0 := hcell m (by omega)
  rw [hx] at hcl0
  have c1 : IntKind.i64.wrap ((m : Int) + 1 - 1) = m := by rw [show (m : Int) + 1 - 1 = m by omega]; exact IntWalk.i64_in _ (by omega)
  have HA := Lib.hid hA
  have HM := Lib.hid hm
  clear hcell hr hx hA hm
  go_enter Tryz.func73, Tryz.ntmps73
  go_upto_region 1 with fail
  obtain ⟨W1, hW1⟩ : ∃ W1, W1 = ((w.alloc (.cells #[.int .i64 k.ph, .int .i64 k.ep, .bool k.mj, .slice k.wk.a k.wk.n k.wk.c, .bool k.ov, .int .i64 k.pa, .int .i64 k.pf, .int .i64 k.ps, .int .i64 k.pc, .bool k.me] 30)).alloc (.cells #[.int .i64 0, .int .i64 0, .bool false, .slice none 0 0, .bool false, .int .i64 0, .int .i64 0, .int .i64 0, .int .i64 0, .bool false] 30)) := ⟨_, rfl⟩
  have S1 : Hid (Wn 2 w W1 (p4 w.heap.size (w.heap.size + 1) (w.heap.size + 2) (w.heap.size + 3)) (c4 (kv k) (kv noK0) [] []) []) := Lib.hid (by
    rw [hW1]
    exact wn_of (c := (c4 (kv k) (kv noK0) [] [])) (((lay_none w).add (kv k) 30).add (kv noK0) 30) (by decide) (all2 ⟨rfl, rfl⟩))
  rw [← hW1]
  clear hW1
  have hA := HA.out
  have hm := HM.out
  have hcl := (S1.out.bel.cell (p := ⟨b, off + m, none⟩) hlt).trans hcl0
  have hbl : b < W1.heap.size := by have := S1.out.bel.size; omega
  clear hcl0 hlt
  have q3 := (show Box _ (w.heap.size) (kv k) from S1.out.box 0 (by decide)).cel 3 (.slice k.wk.a k.wk.n k.wk.c) rfl
  have ql := (show Box _ (w.heap.size) (kv k) from S1.out.box 0 (by decide)).lt
  go_upto_region 3 with fail
  go_upto_region 4 with (refine w_ints S1.out 0 (by decide) 3 ⟨k.wk.a, m, k.wk.c⟩ (vs := kv (Sh.kw k ⟨k.wk.a, m, k.wk.c⟩ k.ov)) (c' := (c4 (kv (Sh.kw k ⟨k.wk.a, m, k.wk.c⟩ k.ov)) (kv noK0) [] [])) (show 3 < 10 by decide) rfl (all2 ⟨rfl, rfl⟩) rfl rfl rfl rfl (by rw [hA]; rfl) ?_; intro W2 h2; have S2 := Lib.hid h2; clear h2)
  rw [← hA]
  clear hA hm hcl hbl q3 ql
  go_wp2_with (first
    | (refine w_load (ldKb (show Box _ (w.heap.size) (kv (Sh.kw k ⟨k.wk.a, m, k.wk.c⟩ k.ov)) from S2.out.box 0 (by decide))) rfl rfl rfl rfl ?_)
    | ((go_at_call 115); (with_reducible refine (enter_any (Sh.kw k ⟨k.wk.a, m, k.wk.c⟩ k.ov) x _).mono ?_); rintro e9 w9 ⟨rfl, hb9⟩; have S3 := Lib.hid (S2.out.next hb9); clear hb9)
    | (refine w_putK S3.out 1 (by decide) (kp (Sh.kw k ⟨k.wk.a, m, k.wk.c⟩ k.ov) x 0) (c' := (c4 (kv (Sh.kw k ⟨k.wk.a, m, k.wk.c⟩ k.ov)) (kv (kp (Sh.kw k ⟨k.wk.a, m, k.wk.c⟩ k.ov) x 0)) [] [])) rfl (all2 ⟨rfl, rfl⟩) rfl rfl rfl rfl rfl ?_; intro W4 h2; have S4 := Lib.hid h2; clear h2))
  exact bodyPost_ret (resK rfl rfl (show Box _ (w.heap.size + 1) (kv (kp (Sh.kw k ⟨k.wk.a, m, k.wk.c⟩ k.ov) x 0)) from S4.out.box 1 (by decide))) rfl ⟨rfl, S4.out.bel⟩
set_option maxHeartbeats 1000000 in
theorem grey_any (n : Q2) (w : World) (hn : Hold w n) (hz : Cl.Sz w) (hf : Fine n.s n.d) (a : Int) : Calls Tryz.prog 117 #[(.agg #[.slice n.s.w.a n.s.w.n n.s.w.c, .slice n.s.p.a n.s.p.n n.s.p.c, .slice (n.s.u 0).a (n.s.u 0).n (n.s.u 0).c, .slice (n.s.u 1).a (n.s.u 1).n (n.s.u 1).c, .slice (n.s.u 2).a (n.s.u 2).n (n.s.u 2).c, .slice n.s.c.a n.s.c.n n.s.c.c]), (.agg #[.int .i64 n.k.ph, .int .i64 n.k.ep, .bool n.k.mj, .slice n.k.wk.a n.k.wk.n n.k.wk.c, .bool n.k.ov, .int .i64 n.k.pa, .int .i64 n.k.pf, .int .i64 n.k.ps, .int .i64 n.k.pc, .bool n.k.me]), .int .i64 a] w fun e w' => e = .returned (.bool (Sh.isC n.s n.d n.k.mj n.k.ep a 2)) ∧ Below w.heap.size w w' := by
  have HN := Lib.hid hn
  have HZ := Lib.hid hz
  have C1 := Lib.hid (fun W (hW : Hold W n) (hz : Cl.Sz W) => Sh.black_any n.s n.d n.k n.xs a W hW.h hW.c hz hf)
  obtain ⟨is, hi⟩ : ∃ is, is = Sh.isC n.s n.d n.k.mj n.k.ep a 2 := ⟨_, rfl⟩
  rw [← hi] at C1 ⊢
  clear hn hz hf hi
  go_enter Tryz.func117, Tryz.ntmps117
  go_upto_region 1 with fail
  obtain ⟨W1, hW1⟩ : ∃ W1, W1 = ((w.alloc (.cells #[.slice n.s.w.a n.s.w.n n.s.w.c, .slice n.s.p.a n.s.p.n n.s.p.c, .slice (n.s.u 0).a (n.s.u 0).n (n.s.u 0).c, .slice (n.s.u 1).a (n.s.u 1).n (n.s.u 1).c, .slice (n.s.u 2).a (n.s.u 2).n (n.s.u 2).c, .slice n.s.c.a n.s.c.n n.s.c.c] 28)).alloc (.cells #[.int .i64 n.k.ph, .int .i64 n.k.ep, .bool n.k.mj, .slice n.k.wk.a n.k.wk.n n.k.wk.c, .bool n.k.ov, .int .i64 n.k.pa, .int .i64 n.k.pf, .int .i64 n.k.ps, .int .i64 n.k.pc, .bool n.k.me] 30)) := ⟨_, rfl⟩
  have S1 : Hid (Wn 2 w W1 (p4 w.heap.size (w.heap.size + 1) (w.heap.size + 2) (w.heap.size + 3)) (c4 (hv n.s) (kv n.k) [] []) [n]) := Lib.hid (by
    rw [hW1]
    exact (wn_of (c := (c4 (hv n.s) (kv n.k) [] [])) (((lay_none w).add (hv n.s) 28).add (kv n.k) 30) (by decide) (all2 ⟨rfl, rfl⟩)).old HN.out)
  rw [← hW1]
  clear hW1
  go_wp2_with (first
    | (refine w_load (ldHb (show Box _ (w.heap.size) (hv n.s) from S1.out.box 0 (by decide))) rfl rfl rfl rfl ?_)
    | (refine w_load (ldKb (show Box _ (w.heap.size + 1) (kv n.k) from S1.out.box 1 (by decide))) rfl rfl rfl rfl ?_)
    | ((go_at_call 114); (with_reducible refine (C1.out _ (S1.out.at n (by simp)) (S1.out.over HZ.out)).mono ?_); rintro e9 w9 ⟨t, rfl, _, _, hb9⟩; have S2 := Lib.hid (S1.out.next hb9); clear hb9))
  go_ret
  exact ⟨rfl, S2.out.bel.alloc S2.out.bel.size _⟩
set_option maxHeartbeats 1000000 in
theorem fields_no (n : Q2) (w : World) (hn : Hold w n) (hz : Cl.Sz w) (hf : Fine n.s n.d) (hg : Sh.isC n.s n.d n.k.mj n.k.ep n.k.pa 2 = false) : Calls Tryz.prog 112 #[(.agg #[.slice n.s.w.a n.s.w.n n.s.w.c, .slice n.s.p.a n.s.p.n n.s.p.c, .slice (n.s.u 0).a (n.s.u 0).n (n.s.u 0).c, .slice (n.s.u 1).a (n.s.u 1).n (n.s.u 1).c, .slice (n.s.u 2).a (n.s.u 2).n (n.s.u 2).c, .slice n.s.c.a n.s.c.n n.s.c.c]), (.agg #[.int .i64 n.k.ph, .int .i64 n.k.ep, .bool n.k.mj, .slice n.k.wk.a n.k.wk.n n.k.wk.c, .bool n.k.ov, .int .i64 n.k.pa, .int .i64 n.k.pf, .int .i64 n.k.ps, .int .i64 n.k.pc, .bool n.k.me])] w fun e w' => e = .returned (.int .i64 (fldN n.s n.d n.k)) ∧ Below w.heap.size w w' := by
  have HN := Lib.hid hn
  have HZ := Lib.hid hz
  have C1 := Lib.hid (fun W (hW : Hold W n) (hz : Cl.Sz W) => grey_any n W hW hz hf n.k.pa)
  rw [hg] at C1
  rw [show fldN n.s n.d n.k = 0 from if_neg (by rw [hg]; decide)]
  clear hn hz hf hg
  go_enter Tryz.func112, Tryz.ntmps112
  go_upto_region 1 with fail
  obtain ⟨W1, hW1⟩ : ∃ W1, W1 = ((w.alloc (.cells #[.slice n.s.w.a n.s.w.n n.s.w.c, .slice n.s.p.a n.s.p.n n.s.p.c, .slice (n.s.u 0).a (n.s.u 0).n (n.s.u 0).c, .slice (n.s.u 1).a (n.s.u 1).n (n.s.u 1).c, .slice (n.s.u 2).a (n.s.u 2).n (n.s.u 2).c, .slice n.s.c.a n.s.c.n n.s.c.c] 28)).alloc (.cells #[.int .i64 n.k.ph, .int .i64 n.k.ep, .bool n.k.mj, .slice n.k.wk.a n.k.wk.n n.k.wk.c, .bool n.k.ov, .int .i64 n.k.pa, .int .i64 n.k.pf, .int .i64 n.k.ps, .int .i64 n.k.pc, .bool n.k.me] 30)) := ⟨_, rfl⟩
  have S1 : Hid (Wn 2 w W1 (p4 w.heap.size (w.heap.size + 1) (w.heap.size + 2) (w.heap.size + 3)) (c4 (hv n.s) (kv n.k) [] []) [n]) := Lib.hid (by
    rw [hW1]
    exact (wn_of (c := (c4 (hv n.s) (kv n.k) [] [])) (((lay_none w).add (hv n.s) 28).add (kv n.k) 30) (by decide) (all2 ⟨rfl, rfl⟩)).old HN.out)
  rw [← hW1]
  clear hW1
  have q5 := (show Box _ (w.heap.size + 1) (kv n.k) from S1.out.box 1 (by decide)).cel 5 (.int .i64 n.k.pa) rfl
  go_wp2_with (first
    | (refine w_load (ldHb (show Box _ (w.heap.size) (hv n.s) from S1.out.box 0 (by decide))) rfl rfl rfl rfl ?_)
    | (refine w_load (ldKb (show Box _ (w.heap.size + 1) (kv n.k) from S1.out.box 1 (by decide))) rfl rfl rfl rfl ?_)
    | ((go_at_call 117); (with_reducible refine (C1.out _ (S1.out.at n (by simp)) (S1.out.over HZ.out)).mono ?_); rintro e9 w9 ⟨rfl, hb9⟩; have S2 := Lib.hid (S1.out.next hb9); clear hb9))
  go_ret
  exact ⟨rfl, S2.out.bel⟩
set_option maxHeartbeats 1000000 in
theorem fields_yes (n : Q2) (w : World) (hn : Hold w n) (hz : Cl.Sz w) (hf : Fine n.s n.d) (hg : Sh.isC n.s n.d n.k.mj n.k.ep n.k.pa 2 = true) : Calls Tryz.prog 112 #[(.agg #[.slice n.s.w.a n.s.w.n n.s.w.c, .slice n.s.p.a n.s.p.n n.s.p.c, .slice (n.s.u 0).a (n.s.u 0).n (n.s.u 0).c, .slice (n.s.u 1).a (n.s.u 1).n (n.s.u 1).c, .slice (n.s.u 2).a (n.s.u 2).n (n.s.u 2).c, .slice n.s.c.a n.s.c.n n.s.c.c]), (.agg #[.int .i64 n.k.ph, .int .i64 n.k.ep, .bool n.k.mj, .slice n.k.wk.a n.k.wk.n n.k.wk.c, .bool n.k.ov, .int .i64 n.k.pa, .int .i64 n.k.pf, .int .i64 n.k.ps, .int .i64 n.k.pc, .bool n.k.me])] w fun e w' => e = .returned (.int .i64 (fldN n.s n.d n.k)) ∧ Below w.heap.size w w' := by
  have HN := Lib.hid hn
  have HZ := Lib.hid hz
  have C1 := Lib.hid (fun W (hW : Hold W n) (hz : Cl.Sz W) => grey_any n W hW hz hf n.k.pa)
  rw [hg] at C1
  have h0 := (Sh.isC_iff.1 hg).2.1
  have C2 := Lib.hid (fun W (hW : Hold W n) (hz : Cl.Sz W) => phead_any n.s n.d n.k.pa W hW.h hz hf)
  rw [(Sh.obj_of h0).val, h0] at C2
  rw [show fldN n.s n.d n.k = nOf (wd n.d n.k.pa) from if_pos hg]
  generalize nOf (wd n.d n.k.pa) = m at C2 ⊢
  clear hn hz hf hg h0
  go_enter Tryz.func112, Tryz.ntmps112
  go_upto_region 1 with fail
  obtain ⟨W1, hW1⟩ : ∃ W1, W1 = ((w.alloc (.cells #[.slice n.s.w.a n.s.w.n n.s.w.c, .slice n.s.p.a n.s.p.n n.s.p.c, .slice (n.s.u 0).a (n.s.u 0).n (n.s.u 0).c, .slice (n.s.u 1).a (n.s.u 1).n (n.s.u 1).c, .slice (n.s.u 2).a (n.s.u 2).n (n.s.u 2).c, .slice n.s.c.a n.s.c.n n.s.c.c] 28)).alloc (.cells #[.int .i64 n.k.ph, .int .i64 n.k.ep, .bool n.k.mj, .slice n.k.wk.a n.k.wk.n n.k.wk.c, .bool n.k.ov, .int .i64 n.k.pa, .int .i64 n.k.pf, .int .i64 n.k.ps, .int .i64 n.k.pc, .bool n.k.me] 30)) := ⟨_, rfl⟩
  have S1 : Hid (Wn 2 w W1 (p4 w.heap.size (w.heap.size + 1) (w.heap.size + 2) (w.heap.size + 3)) (c4 (hv n.s) (kv n.k) [] []) [n]) := Lib.hid (by
    rw [hW1]
    exact (wn_of (c := (c4 (hv n.s) (kv n.k) [] [])) (((lay_none w).add (hv n.s) 28).add (kv n.k) 30) (by decide) (all2 ⟨rfl, rfl⟩)).old HN.out)
  rw [← hW1]
  clear hW1
  have q5 := (show Box _ (w.heap.size + 1) (kv n.k) from S1.out.box 1 (by decide)).cel 5 (.int .i64 n.k.pa) rfl
  go_upto_region 3 with (first
    | (refine w_load (ldHb (show Box _ (w.heap.size) (hv n.s) from S1.out.box 0 (by decide))) rfl rfl rfl rfl ?_)
    | (refine w_load (ldKb (show Box _ (w.heap.size + 1) (kv n.k) from S1.out.box 1 (by decide))) rfl rfl rfl rfl ?_)
    | ((go_at_call 117); (with_reducible refine (C1.out _ (S1.out.at n (by simp)) (S1.out.over HZ.out)).mono ?_); rintro e9 w9 ⟨rfl, hb9⟩; have S2 := Lib.hid (S1.out.next hb9); clear hb9))
  clear q5
  have q5 := (show Box _ (w.heap.size + 1) (kv n.k) from S2.out.box 1 (by decide)).cel 5 (.int .i64 n.k.pa) rfl
  go_wp2_with (first
    | (refine w_load (ldHb (show Box _ (w.heap.size) (hv n.s) from S2.out.box 0 (by decide))) rfl rfl rfl rfl ?_)
    | ((go_at_call 26); (with_reducible refine (C2.out _ (S2.out.at n (by simp)) (S2.out.over HZ.out)).mono ?_); rintro e9 w9 ⟨rfl, hb9⟩; have S3 := Lib.hid (S2.out.next hb9); clear hb9))
  go_ret
  exact ⟨rfl, S3.out.bel.alloc S3.out.bel.size _⟩
theorem fields_any (n : Q2) (w : World) (hn : Hold w n) (hz : Cl.Sz w) (hf : Fine n.s n.d) : Calls Tryz.prog 112 #[(.agg #[.slice n.s.w.a n.s.w.n n.s.w.c, .slice n.s.p.a n.s.p.n n.s.p.c, .slice (n.s.u 0).a (n.s.u 0).n (n.s.u 0).c, .slice (n.s.u 1).a (n.s.u 1).n (n.s.u 1).c, .slice (n.s.u 2).a (n.s.u 2).n (n.s.u 2).c, .slice n.s.c.a n.s.c.n n.s.c.c]), (.agg #[.int .i64 n.k.ph, .int .i64 n.k.ep, .bool n.k.mj, .slice n.k.wk.a n.k.wk.n n.k.wk.c, .bool n.k.ov, .int .i64 n.k.pa, .int .i64 n.k.pf, .int .i64 n.k.ps, .int .i64 n.k.pc, .bool n.k.me])] w fun e w' => e = .returned (.int .i64 (fldN n.s n.d n.k)) ∧ Below w.heap.size w w' := by
  cases hg : Sh.isC n.s n.d n.k.mj n.k.ep n.k.pa 2
  · exact fields_no n w hn hz hf hg
  · exact fields_yes n w hn hz hf hg
set_option maxHeartbeats 1000000 in
theorem look_yes (n : Q2) (w : World) (hn : Hold w n) (hz : Cl.Sz w) (hf : Fine n.s n.d) (hg : Sh.isC n.s n.d n.k.mj n.k.ep (nxt n.s n.d n.k.ps) 2 = true) : Calls Tryz.prog 74 #[(.agg #[.slice n.s.w.a n.s.w.n n.s.w.c, .slice n.s.p.a n.s.p.n n.s.p.c, .slice (n.s.u 0).a (n.s.u 0).n (n.s.u 0).c, .slice (n.s.u 1).a (n.s.u 1).n (n.s.u 1).c, .slice (n.s.u 2).a (n.s.u 2).n (n.s.u 2).c, .slice n.s.c.a n.s.c.n n.s.c.c]), (.agg #[.int .i64 n.k.ph, .int .i64 n.k.ep, .bool n.k.mj, .slice n.k.wk.a n.k.wk.n n.k.wk.c, .bool n.k.ov, .int .i64 n.k.pa, .int .i64 n.k.pf, .int .i64 n.k.ps, .int .i64 n.k.pc, .bool n.k.me])] w fun e w' => e = .returned (.agg #[.int .i64 (kp (kq n.k (nxt n.s n.d n.k.ps)) (nxt n.s n.d n.k.ps) 0).ph, .int .i64 (kp (kq n.k (nxt n.s n.d n.k.ps)) (nxt n.s n.d n.k.ps) 0).ep, .bool (kp (kq n.k (nxt n.s n.d n.k.ps)) (nxt n.s n.d n.k.ps) 0).mj, .slice (kp (kq n.k (nxt n.s n.d n.k.ps)) (nxt n.s n.d n.k.ps) 0).wk.a (kp (kq n.k (nxt n.s n.d n.k.ps)) (nxt n.s n.d n.k.ps) 0).wk.n (kp (kq n.k (nxt n.s n.d n.k.ps)) (nxt n.s n.d n.k.ps) 0).wk.c, .bool (kp (kq n.k (nxt n.s n.d n.k.ps)) (nxt n.s n.d n.k.ps) 0).ov, .int .i64 (kp (kq n.k (nxt n.s n.d n.k.ps)) (nxt n.s n.d n.k.ps) 0).pa, .int .i64 (kp (kq n.k (nxt n.s n.d n.k.ps)) (nxt n.s n.d n.k.ps) 0).pf, .int .i64 (kp (kq n.k (nxt n.s n.d n.k.ps)) (nxt n.s n.d n.k.ps) 0).ps, .int .i64 (kp (kq n.k (nxt n.s n.d n.k.ps)) (nxt n.s n.d n.k.ps) 0).pc, .bool (kp (kq n.k (nxt n.s n.d n.k.ps)) (nxt n.s n.d n.k.ps) 0).me]) ∧ Below w.heap.size w w' := by
  have HN := Lib.hid hn
  have HZ := Lib.hid hz
  obtain ⟨q, hq⟩ : ∃ q, q = nxt n.s n.d n.k.ps := ⟨_, rfl⟩
  obtain ⟨ok, hok⟩ : ∃ ok, ok = Cl.foundS (Cl.allL n.d.f n.s.p.n) (Cl.pUp n.k.ps) := ⟨_, rfl⟩
  have C0 := Lib.hid (fun W (hW : Hold W n) (hz : Cl.Sz W) => Cl.next_any W.heap.size n.s.p.a n.s.p.n n.s.p.c n.d.f n.k.ps W (by have := hf.pn; omega) hz hW.h.pages (Nat.le_refl _))
  rw [show (Cl.foundV (Cl.allL n.d.f n.s.p.n) (Cl.pUp n.k.ps)).1 = q from hq.symm, ← hok] at C0
  rw [← hq] at hg ⊢
  have C1 := Lib.hid (fun W (hW : Hold W ⟨n.s, kq n.k q, n.d, n.xs⟩) (hz : Cl.Sz W) => grey_any ⟨n.s, kq n.k q, n.d, n.xs⟩ W hW hz hf q)
  rw [show Sh.isC n.s n.d (kq n.k q).mj (kq n.k q).ep q 2 = true from hg] at C1
  clear hn hz hf hg hq hok
  go_enter Tryz.func74, Tryz.ntmps74
  go_upto_region 1 with fail
  obtain ⟨W1, hW1⟩ : ∃ W1, W1 = (((w.alloc (.cells #[.slice n.s.w.a n.s.w.n n.s.w.c, .slice n.s.p.a n.s.p.n n.s.p.c, .slice (n.s.u 0).a (n.s.u 0).n (n.s.u 0).c, .slice (n.s.u 1).a (n.s.u 1).n (n.s.u 1).c, .slice (n.s.u 2).a (n.s.u 2).n (n.s.u 2).c, .slice n.s.c.a n.s.c.n n.s.c.c] 28)).alloc (.cells #[.int .i64 n.k.ph, .int .i64 n.k.ep, .bool n.k.mj, .slice n.k.wk.a n.k.wk.n n.k.wk.c, .bool n.k.ov, .int .i64 n.k.pa, .int .i64 n.k.pf, .int .i64 n.k.ps, .int .i64 n.k.pc, .bool n.k.me] 30)).alloc (.cells #[.int .i64 0, .int .i64 0, .bool false, .slice none 0 0, .bool false, .int .i64 0, .int .i64 0, .int .i64 0, .int .i64 0, .bool false] 30)) := ⟨_, rfl⟩
  have S1 : Hid (Wn 3 w W1 (p4 w.heap.size (w.heap.size + 1) (w.heap.size + 2) (w.heap.size + 3)) (c4 (hv n.s) (kv n.k) (kv noK0) []) [n]) := Lib.hid (by
    rw [hW1]
    exact (wn_of (c := (c4 (hv n.s) (kv n.k) (kv noK0) [])) ((((lay_none w).add (hv n.s) 28).add (kv n.k) 30).add (kv noK0) 30) (by decide) (all3 ⟨rfl, rfl, rfl⟩)).old HN.out)
  rw [← hW1]
  clear hW1
  have q1 := (show Box _ (w.heap.size) (hv n.s) from S1.out.box 0 (by decide)).cel 1 (.slice n.s.p.a n.s.p.n n.s.p.c) rfl
  have q7 := (show Box _ (w.heap.size + 1) (kv n.k) from S1.out.box 1 (by decide)).cel 7 (.int .i64 n.k.ps) rfl
  go_upto_region 2 with (first
    | ((go_at_call 116); (with_reducible refine (C0.out _ (S1.out.at n (by simp)) (S1.out.over HZ.out)).mono ?_); rintro e9 w9 ⟨rfl, hb9⟩; have S2 := Lib.hid (S1.out.next hb9); clear hb9)
    | (refine w_int S2.out 1 (by decide) 7 q (vs := kv (kq n.k q)) (c' := (c4 (hv n.s) (kv (kq n.k q)) (kv noK0) [])) (show 7 < 10 by decide) rfl (all3 ⟨rfl, rfl, rfl⟩) rfl rfl rfl rfl rfl ?_; intro W3 h2; have S3 := Lib.hid (Wn.held h2.bare (n := ⟨n.s, kq n.k q, n.d, n.xs⟩) ⟨(h2.at n (by simp)).h, (h2.at n (by simp)).c⟩ fun i hi => ⟨((h2.hold n (by simp)).2 i hi).h, ((h2.hold n (by simp)).2 i hi).k⟩); clear h2))
  clear q1 q7
  have q7 := (show Box _ (w.heap.size + 1) (kv (kq n.k q)) from S3.out.box 1 (by decide)).cel 7 (.int .i64 q) rfl
  go_upto_region 3 with (first
    | (refine w_load (ldHb (show Box _ (w.heap.size) (hv n.s) from S3.out.box 0 (by decide))) rfl rfl rfl rfl ?_)
    | (refine w_load (ldKb (show Box _ (w.heap.size + 1) (kv (kq n.k q)) from S3.out.box 1 (by decide))) rfl rfl rfl rfl ?_)
    | ((go_at_call 117); (with_reducible refine (C1.out _ (S3.out.at _ (by simp)) (S3.out.over HZ.out)).mono ?_); rintro e9 w9 ⟨rfl, hb9⟩; have S4 := Lib.hid (S3.out.next hb9); clear hb9))
  clear q7
  have q7 := (show Box _ (w.heap.size + 1) (kv (kq n.k q)) from S4.out.box 1 (by decide)).cel 7 (.int .i64 q) rfl
  go_wp2_with (first
    | (refine w_load (ldKb (show Box _ (w.heap.size + 1) (kv (kq n.k q)) from S4.out.box 1 (by decide))) rfl rfl rfl rfl ?_)
    | ((go_at_call 115); (with_reducible refine (enter_any (kq n.k q) q _).mono ?_); rintro e9 w9 ⟨rfl, hb9⟩; have S5 := Lib.hid (S4.out.next hb9); clear hb9)
    | (refine w_putK S5.out 2 (by decide) (kp (kq n.k q) q 0) (c' := (c4 (hv n.s) (kv (kq n.k q)) (kv (kp (kq n.k q) q 0)) [])) rfl (all3 ⟨rfl, rfl, rfl⟩) rfl rfl rfl rfl rfl ?_; intro W4 h2; have S6 := Lib.hid h2; clear h2))
  exact bodyPost_ret (resK rfl rfl (show Box _ (w.heap.size + 2) (kv (kp (kq n.k q) q 0)) from S6.out.box 2 (by decide))) rfl ⟨rfl, S6.out.bel⟩
set_option maxHeartbeats 1000000 in
theorem look_no (n : Q2) (w : World) (hn : Hold w n) (hz : Cl.Sz w) (hf : Fine n.s n.d) (hg : Sh.isC n.s n.d n.k.mj n.k.ep (nxt n.s n.d n.k.ps) 2 = false) : Calls Tryz.prog 74 #[(.agg #[.slice n.s.w.a n.s.w.n n.s.w.c, .slice n.s.p.a n.s.p.n n.s.p.c, .slice (n.s.u 0).a (n.s.u 0).n (n.s.u 0).c, .slice (n.s.u 1).a (n.s.u 1).n (n.s.u 1).c, .slice (n.s.u 2).a (n.s.u 2).n (n.s.u 2).c, .slice n.s.c.a n.s.c.n n.s.c.c]), (.agg #[.int .i64 n.k.ph, .int .i64 n.k.ep, .bool n.k.mj, .slice n.k.wk.a n.k.wk.n n.k.wk.c, .bool n.k.ov, .int .i64 n.k.pa, .int .i64 n.k.pf, .int .i64 n.k.ps, .int .i64 n.k.pc, .bool n.k.me])] w fun e w' => e = .returned (.agg #[.int .i64 (kq n.k (nxt n.s n.d n.k.ps)).ph, .int .i64 (kq n.k (nxt n.s n.d n.k.ps)).ep, .bool (kq n.k (nxt n.s n.d n.k.ps)).mj, .slice (kq n.k (nxt n.s n.d n.k.ps)).wk.a (kq n.k (nxt n.s n.d n.k.ps)).wk.n (kq n.k (nxt n.s n.d n.k.ps)).wk.c, .bool (kq n.k (nxt n.s n.d n.k.ps)).ov, .int .i64 (kq n.k (nxt n.s n.d n.k.ps)).pa, .int .i64 (kq n.k (nxt n.s n.d n.k.ps)).pf, .int .i64 (kq n.k (nxt n.s n.d n.k.ps)).ps, .int .i64 (kq n.k (nxt n.s n.d n.k.ps)).pc, .bool (kq n.k (nxt n.s n.d n.k.ps)).me]) ∧ Below w.heap.size w w' := by
  have HN := Lib.hid hn
  have HZ := Lib.hid hz
  obtain ⟨q, hq⟩ : ∃ q, q = nxt n.s n.d n.k.ps := ⟨_, rfl⟩
  obtain ⟨ok, hok⟩ : ∃ ok, ok = Cl.foundS (Cl.allL n.d.f n.s.p.n) (Cl.pUp n.k.ps) := ⟨_, rfl⟩
  have C0 := Lib.hid (fun W (hW : Hold W n) (hz : Cl.Sz W) => Cl.next_any W.heap.size n.s.p.a n.s.p.n n.s.p.c n.d.f n.k.ps W (by have := hf.pn; omega) hz hW.h.pages (Nat.le_refl _))
  rw [show (Cl.foundV (Cl.allL n.d.f n.s.p.n) (Cl.pUp n.k.ps)).1 = q from hq.symm, ← hok] at C0
  rw [← hq] at hg ⊢
  have C1 := Lib.hid (fun W (hW : Hold W ⟨n.s, kq n.k q, n.d, n.xs⟩) (hz : Cl.Sz W) => grey_any ⟨n.s, kq n.k q, n.d, n.xs⟩ W hW hz hf q)
  rw [show Sh.isC n.s n.d (kq n.k q).mj (kq n.k q).ep q 2 = false from hg] at C1
  clear hn hz hf hg hq hok
  go_enter Tryz.func74, Tryz.ntmps74
  go_upto_region 1 with fail
  obtain ⟨W1, hW1⟩ : ∃ W1, W1 = (((w.alloc (.cells #[.slice n.s.w.a n.s.w.n n.s.w.c, .slice n.s.p.a n.s.p.n n.s.p.c, .slice (n.s.u 0).a (n.s.u 0).n (n.s.u 0).c, .slice (n.s.u 1).a (n.s.u 1).n (n.s.u 1).c, .slice (n.s.u 2).a (n.s.u 2).n (n.s.u 2).c, .slice n.s.c.a n.s.c.n n.s.c.c] 28)).alloc (.cells #[.int .i64 n.k.ph, .int .i64 n.k.ep, .bool n.k.mj, .slice n.k.wk.a n.k.wk.n n.k.wk.c, .bool n.k.ov, .int .i64 n.k.pa, .int .i64 n.k.pf, .int .i64 n.k.ps, .int .i64 n.k.pc, .bool n.k.me] 30)).alloc (.cells #[.int .i64 0, .int .i64 0, .bool false, .slice none 0 0, .bool false, .int .i64 0, .int .i64 0, .int .i64 0, .int .i64 0, .bool false] 30)) := ⟨_, rfl⟩
  have S1 : Hid (Wn 3 w W1 (p4 w.heap.size (w.heap.size + 1) (w.heap.size + 2) (w.heap.size + 3)) (c4 (hv n.s) (kv n.k) (kv noK0) []) [n]) := Lib.hid (by
    rw [hW1]
    exact (wn_of (c := (c4 (hv n.s) (kv n.k) (kv noK0) [])) ((((lay_none w).add (hv n.s) 28).add (kv n.k) 30).add (kv noK0) 30) (by decide) (all3 ⟨rfl, rfl, rfl⟩)).old HN.out)
  rw [← hW1]
  clear hW1
  have q1 := (show Box _ (w.heap.size) (hv n.s) from S1.out.box 0 (by decide)).cel 1 (.slice n.s.p.a n.s.p.n n.s.p.c) rfl
  have q7 := (show Box _ (w.heap.size + 1) (kv n.k) from S1.out.box 1 (by decide)).cel 7 (.int .i64 n.k.ps) rfl
  go_upto_region 2 with (first
    | ((go_at_call 116); (with_reducible refine (C0.out _ (S1.out.at n (by simp)) (S1.out.over HZ.out)).mono ?_); rintro e9 w9 ⟨rfl, hb9⟩; have S2 := Lib.hid (S1.out.next hb9); clear hb9)
    | (refine w_int S2.out 1 (by decide) 7 q (vs := kv (kq n.k q)) (c' := (c4 (hv n.s) (kv (kq n.k q)) (kv noK0) [])) (show 7 < 10 by decide) rfl (all3 ⟨rfl, rfl, rfl⟩) rfl rfl rfl rfl rfl ?_; intro W3 h2; have S3 := Lib.hid (Wn.held h2.bare (n := ⟨n.s, kq n.k q, n.d, n.xs⟩) ⟨(h2.at n (by simp)).h, (h2.at n (by simp)).c⟩ fun i hi => ⟨((h2.hold n (by simp)).2 i hi).h, ((h2.hold n (by simp)).2 i hi).k⟩); clear h2))
  clear q1 q7
  have q7 := (show Box _ (w.heap.size + 1) (kv (kq n.k q)) from S3.out.box 1 (by decide)).cel 7 (.int .i64 q) rfl
  go_upto_region 4 with (first
    | (refine w_load (ldHb (show Box _ (w.heap.size) (hv n.s) from S3.out.box 0 (by decide))) rfl rfl rfl rfl ?_)
    | (refine w_load (ldKb (show Box _ (w.heap.size + 1) (kv (kq n.k q)) from S3.out.box 1 (by decide))) rfl rfl rfl rfl ?_)
    | ((go_at_call 117); (with_reducible refine (C1.out _ (S3.out.at _ (by simp)) (S3.out.over HZ.out)).mono ?_); rintro e9 w9 ⟨rfl, hb9⟩; have S4 := Lib.hid (S3.out.next hb9); clear hb9))
  clear q7
  go_wp2_with (first
    | (refine w_load (ldKb (show Box _ (w.heap.size + 1) (kv (kq n.k q)) from S4.out.box 1 (by decide))) rfl rfl rfl rfl ?_)
    | (refine w_putK S4.out 2 (by decide) (kq n.k q) (c' := (c4 (hv n.s) (kv (kq n.k q)) (kv (kq n.k q)) [])) rfl (all3 ⟨rfl, rfl, rfl⟩) rfl rfl rfl rfl rfl ?_; intro W4 h2; have S6 := Lib.hid h2; clear h2))
  exact bodyPost_ret (resK rfl rfl (show Box _ (w.heap.size + 2) (kv (kq n.k q)) from S6.out.box 2 (by decide))) rfl ⟨rfl, S6.out.bel⟩
theorem look_any (n : Q2) (w : World) (hn : Hold w n) (hz : Cl.Sz w) (hf : Fine n.s n.d) : Calls Tryz.prog 74 #[(.agg #[.slice n.s.w.a n.s.w.n n.s.w.c, .slice n.s.p.a n.s.p.n n.s.p.c, .slice (n.s.u 0).a (n.s.u 0).n (n.s.u 0).c, .slice (n.s.u 1).a (n.s.u 1).n (n.s.u 1).c, .slice (n.s.u 2).a (n.s.u 2).n (n.s.u 2).c, .slice n.s.c.a n.s.c.n n.s.c.c]), (.agg #[.int .i64 n.k.ph, .int .i64 n.k.ep, .bool n.k.mj, .slice n.k.wk.a n.k.wk.n n.k.wk.c, .bool n.k.ov, .int .i64 n.k.pa, .int .i64 n.k.pf, .int .i64 n.k.ps, .int .i64 n.k.pc, .bool n.k.me])] w fun e w' => e = .returned (.agg #[.int .i64 (seekR n.s n.d n.k n.xs).k.ph, .int .i64 (seekR n.s n.d n.k n.xs).k.ep, .bool (seekR n.s n.d n.k n.xs).k.mj, .slice (seekR n.s n.d n.k n.xs).k.wk.a (seekR n.s n.d n.k n.xs).k.wk.n (seekR n.s n.d n.k n.xs).k.wk.c, .bool (seekR n.s n.d n.k n.xs).k.ov, .int .i64 (seekR n.s n.d n.k n.xs).k.pa, .int .i64 (seekR n.s n.d n.k n.xs).k.pf, .int .i64 (seekR n.s n.d n.k n.xs).k.ps, .int .i64 (seekR n.s n.d n.k n.xs).k.pc, .bool (seekR n.s n.d n.k n.xs).k.me]) ∧ Below w.heap.size w w' := by
  unfold seekR
  cases hg : Sh.isC n.s n.d n.k.mj n.k.ep (nxt n.s n.d n.k.ps) 2
  · rw [if_neg (by decide)]
    exact look_no n w hn hz hf hg
  · rw [if_pos rfl]
    exact look_yes n w hn hz hf hg
end Go.Proofs.YtccjelpfmkbmiaaGreatDoor.Tr
end
section
namespace Go.Proofs.YtccjelpfmkbmiaaGreatDoor.Tr
open Go.Proofs.YtccjelpfmkbmiaaGreatDoor Go.Proofs.YtccjelpfmkbmiaaGreatDoor.Rt
open Go.RowKit
open Go.Proofs.YtccjelpfmkbmiaaGreatDoor.Mu (hv kv w_load w_store w_loadg ldHb ldKb stHb stKb st_int ld_int p_load p_store ev region_plan noHs0 noK0)
set_option maxRecDepth 100000

def sel (c : Bool) (x y : List Value) : List Value := if c = true then x else y
theorem sel_h {c : Bool} {x y : Hs} : (sel c (hv x) (hv y)).length = 6 := by unfold sel; split <;> rfl
theorem sel_k {c : Bool} {x y : Sh.Ks} : (sel c (kv x) (kv y)).length = 10 := by unfold sel; split <;> rfl
/-- Results, put in their boxes one by one. -/
structure R4 (w : World) (p : Nat → Nat) (n : Q2) (k' : Sh.Ks) (i j : Nat) (l : Nat → Bool) (W : World) : Prop where
  st : Wn 4 w W p (c4 (hv n.s) (kv n.k) (sel (l i) (hv n.s) (hv noHs0)) (sel (l j) (kv k') (kv noK0))) [n]
section
variable {w W W' : World} {p : Nat → Nat} {n : Q2} {k' : Sh.Ks} {i j q : Nat} {l : Nat → Bool}
theorem r4_start (h : Wn 4 w W p (c4 (hv n.s) (kv n.k) (hv noHs0) (kv noK0)) [n]) : R4 w p n k' i j (fun _ => false) W := ⟨h⟩
theorem R4.next (h : R4 w p n k' i j l W) (hb : Below W.heap.size W W') : R4 w p n k' i j l W' := ⟨h.st.next hb⟩
theorem R4.pure (h : R4 w p n k' i j l W) (hi : ¬ q = i) (hj : ¬ q = j) : R4 w p n k' i j (Ls.upd l q true) W :=
  ⟨by rw [Ls.upd_other _ _ (fun e => hi e.symm), Ls.upd_other _ _ (fun e => hj e.symm)]; exact h.st⟩
theorem upd_same (l : Nat → Bool) (i : Nat) : Ls.upd l i true i = true := by simp [Ls.upd]
theorem R4.putH (h : R4 w p n k' i j l W) (hij : ¬ i = j) : R4 w p n k' i j (Ls.upd l i true) (puts (p 2) 0 (hv n.s) W) :=
  ⟨by
    rw [upd_same, Ls.upd_other _ _ (fun e => hij e.symm)]
    exact h.st.puts 2 (by decide) (hv n.s) (by show (sel (l i) (hv n.s) (hv noHs0)).length = _; rw [sel_h]; rfl) (all4 ⟨rfl, rfl, rfl, rfl⟩)⟩
theorem R4.putK (h : R4 w p n k' i j l W) (hij : ¬ i = j) : R4 w p n k' i j (Ls.upd l j true) (puts (p 3) 0 (kv k') W) :=
  ⟨by
    rw [upd_same, Ls.upd_other _ _ hij]
    exact h.st.puts 3 (by decide) (kv k') (by show (sel (l j) (kv k') (kv noK0)).length = _; rw [sel_k]; rfl) (all4 ⟨rfl, rfl, rfl, rfl⟩)⟩
theorem R4.done (h : R4 w p n k' i j l W) (hi : l i = true) (hj : l j = true) : Wn 4 w W p (c4 (hv n.s) (kv n.k) (hv n.s) (kv k')) [n] := by
  have := h.st
  rw [hi, hj] at this
  exact this
end
/-- Copies: where they lie. -/
structure Gx where
  s : Hs
  v : Ls.Sl
def gQ (n : Q2) (x : Gx) : Q2 := ⟨x.s, Sh.kw n.k x.v n.k.ov, n.d, n.xs⟩
structure J6 (w : World) (n : Q2) (x : Gx) (l : Nat → Bool) (W : World) : Prop where
  st : Wn 4 w W (p4 w.heap.size (w.heap.size + 1) (w.heap.size + 2) (w.heap.size + 3)) (c4 (sel (l 4) (hv x.s) (hv n.s)) (sel (l 5) (kv (Sh.kw n.k x.v n.k.ov)) (kv n.k)) (hv noHs0) (kv noK0)) []
  k1 : l 1 = true → l 0 = true
  k3 : l 3 = true → l 2 = true
  k4 : l 4 = true → l 1 = true
  k5 : l 5 = true → l 3 = true
  h1 : l 1 = true → Hp W W.heap.size x.s n.d ∧ Lens n.s x.s ∧ News (w.heap.size + 4) x.s
  h3 : l 3 = true → Row W W.heap.size x.v.a x.v.n n.xs ∧ (0 < x.v.n → ∀ y, x.v.a = some y → w.heap.size + 4 ≤ y.block) ∧ x.v.n ≤ x.v.c
section
variable {w W W' : World} {n : Q2} {x : Gx} {l : Nat → Bool} {s' : Hs} {v' : Ls.Sl}
theorem J6.next (h : J6 w n x l W) (hb : Below W.heap.size W W') : J6 w n x l W' := ⟨h.st.next hb, h.k1, h.k3, h.k4, h.k5, fun e => ⟨(h.h1 e).1.next hb, (h.h1 e).2⟩, fun e => ⟨((h.h3 e).1.below hb).more hb.size, (h.h3 e).2⟩⟩
theorem J6.size (h : J6 w n x l W) : w.heap.size + 4 ≤ W.heap.size := by have : w.heap.size + 3 < W.heap.size := h.st.lt (i := 3) (by decide); omega
theorem j6_start (h : Wn 4 w W (p4 w.heap.size (w.heap.size + 1) (w.heap.size + 2) (w.heap.size + 3)) (c4 (hv n.s) (kv n.k) (hv noHs0) (kv noK0)) []) (x : Gx) : J6 w n x (fun _ => false) W :=
  ⟨h, fun e => (by cases e), fun e => (by cases e), fun e => (by cases e), fun e => (by cases e), fun e => (by cases e), fun e => (by cases e)⟩
theorem nt {b : Bool} (h : b = true → False) : b = false := by cases b; rfl; exact absurd rfl h
theorem J6.pure (h : J6 w n x l W) {i : Nat} (hi : i = 0 ∨ i = 2) : J6 w n x (Ls.upd l i true) W := by
  have q : ∀ j, ¬ (j = 0 ∨ j = 2) → Ls.upd l i true j = l j := fun j hj => Ls.upd_other _ _ (by omega)
  have u : ∀ j, l j = true → Ls.upd l i true j = true := fun j hj => by unfold Ls.upd; split; rfl; exact hj
  exact ⟨by rw [q 4 (by omega), q 5 (by omega)]; exact h.st, by rw [q 1 (by omega)]; exact fun e => u _ (h.k1 e), by rw [q 3 (by omega)]; exact fun e => u _ (h.k3 e), by rw [q 4 (by omega), q 1 (by omega)]; exact h.k4, by rw [q 5 (by omega), q 3 (by omega)]; exact h.k5, by rw [q 1 (by omega)]; exact h.h1, by rw [q 3 (by omega)]; exact h.h3⟩
theorem J6.set1 (h : J6 w n x l W) (hl : l 1 = false) (h0 : l 0 = true) (hp : Hp W W.heap.size s' n.d) (hL : Lens n.s s') (hn : News (w.heap.size + 4) s') : J6 w n ⟨s', x.v⟩ (Ls.upd l 1 true) W := by
  have q : ∀ j, ¬ j = 1 → Ls.upd l 1 true j = l j := fun j hj => Ls.upd_other _ _ hj
  have e4 : l 4 = false := nt fun e => by rw [h.k4 e] at hl; cases hl
  exact ⟨by rw [q 4 (by decide), q 5 (by decide), e4]; have := h.st; rw [e4] at this; exact this, fun _ => by rw [q 0 (by decide)]; exact h0, by rw [q 3 (by decide), q 2 (by decide)]; exact h.k3, fun _ => upd_same _ _, by rw [q 5 (by decide), q 3 (by decide)]; exact h.k5, fun _ => ⟨hp, hL, hn⟩, by rw [q 3 (by decide)]; exact h.h3⟩
theorem J6.set3 (h : J6 w n x l W) (hl : l 3 = false) (h2 : l 2 = true) (hp : Row W W.heap.size v'.a v'.n n.xs ∧ (0 < v'.n → ∀ y, v'.a = some y → w.heap.size + 4 ≤ y.block) ∧ v'.n ≤ v'.c) : J6 w n ⟨x.s, v'⟩ (Ls.upd l 3 true) W := by
  have q : ∀ j, ¬ j = 3 → Ls.upd l 3 true j = l j := fun j hj => Ls.upd_other _ _ hj
  have e5 : l 5 = false := nt fun e => by rw [h.k5 e] at hl; cases hl
  exact ⟨by rw [q 4 (by decide), q 5 (by decide), e5]; have := h.st; rw [e5] at this; exact this, by rw [q 1 (by decide), q 0 (by decide)]; exact h.k1, fun _ => by rw [q 2 (by decide)]; exact h2, by rw [q 4 (by decide), q 1 (by decide)]; exact h.k4, fun _ => upd_same _ _, by rw [q 1 (by decide)]; exact h.h1, fun _ => hp⟩
theorem J6.put (h : J6 w n x l W) {i : Nat} (hi : i = 4 ∨ i = 5) {b : Nat} (hb : b < w.heap.size + 4) {vs : List Value} {c' : Nat → List Value} (e4 : i = 4 → l 1 = true) (e5 : i = 5 → l 3 = true)
    (hst : Wn 4 w (puts b 0 vs W) (p4 w.heap.size (w.heap.size + 1) (w.heap.size + 2) (w.heap.size + 3)) c' [])
    (hc : c' = c4 (sel (Ls.upd l i true 4) (hv x.s) (hv n.s)) (sel (Ls.upd l i true 5) (kv (Sh.kw n.k x.v n.k.ov)) (kv n.k)) (hv noHs0) (kv noK0)) : J6 w n x (Ls.upd l i true) (puts b 0 vs W) := by
  have q : ∀ j, j < 4 → Ls.upd l i true j = l j := fun j hj => Ls.upd_other _ _ (by omega)
  have u : ∀ j, Ls.upd l i true j = true → j = i ∨ l j = true := fun j hj => by
    by_cases e : j = i
    · exact .inl e
    · rw [Ls.upd_other _ _ e] at hj; exact .inr hj
  have hs : ∀ k, ¬ k = b → (puts b 0 vs W).heap[k]? = W.heap[k]? := fun _ hk => puts_other _ _ _ _ hk
  have hz : (puts b 0 vs W).heap.size = W.heap.size := puts_size _ _ _ _
  refine ⟨by rw [← hc]; exact hst, by rw [q 1 (by omega), q 0 (by omega)]; exact h.k1, by rw [q 3 (by omega), q 2 (by omega)]; exact h.k3, fun e => ?_, fun e => ?_, fun e => ?_, fun e => ?_⟩
  · rw [q 1 (by omega)]
    rcases u 4 e with e | e
    · exact e4 e.symm
    · exact h.k4 e
  · rw [q 3 (by omega)]
    rcases u 5 e with e | e
    · exact e5 e.symm
    · exact h.k5 e
  · rw [q 1 (by omega)] at e
    obtain ⟨a1, a2, a3⟩ := h.h1 e
    exact ⟨by rw [hz]; exact Mu.hp_off a1 (offh_new a3 hb) hs, a2, a3⟩
  · rw [q 3 (by omega)] at e
    obtain ⟨a1, a2, a3⟩ := h.h3 e
    exact ⟨by rw [hz]; exact Mu.row_keep a1 (fun h0 y hy => hs y.block (by have := a2 h0 y hy; omega)), a2, a3⟩
theorem J6.putH (h : J6 w n x l W) (h1 : l 1 = true) : J6 w n x (Ls.upd l 4 true) (puts w.heap.size 0 (hv x.s) W) :=
  h.put (.inl rfl) (by omega) (fun _ => h1) (fun e => by cases e) (h.st.puts 0 (by decide) (hv x.s) (by show (sel (l 4) (hv x.s) (hv n.s)).length = _; rw [sel_h]; rfl) (all4 ⟨rfl, rfl, rfl, rfl⟩)) rfl
theorem J6.putK (h : J6 w n x l W) (h1 : l 3 = true) : J6 w n x (Ls.upd l 5 true) (puts (w.heap.size + 1) 0 (kv (Sh.kw n.k x.v n.k.ov)) W) :=
  h.put (.inr rfl) (by omega) (fun e => by cases e) (fun _ => h1) (h.st.puts 1 (by decide) (kv (Sh.kw n.k x.v n.k.ov)) (by show (sel (l 5) (kv (Sh.kw n.k x.v n.k.ov)) (kv n.k)).length = _; rw [sel_k]; rfl) (all4 ⟨rfl, rfl, rfl, rfl⟩)) rfl
theorem J6.done (h : J6 w n x l W) (hall : ∀ i, i < 6 → l i = true) : Wn 4 w W (p4 w.heap.size (w.heap.size + 1) (w.heap.size + 2) (w.heap.size + 3)) (c4 (hv (gQ n x).s) (kv (gQ n x).k) (hv noHs0) (kv noK0)) [gQ n x] ∧ NewQ (w.heap.size + 4) (gQ n x) ∧ Lens n.s x.s ∧ x.v.n ≤ x.v.c := by
  have hst := h.st
  rw [hall 4 (by decide), hall 5 (by decide)] at hst
  obtain ⟨a1, a2, a3⟩ := h.h1 (hall 1 (by decide))
  obtain ⟨b1, b2, b3⟩ := h.h3 (hall 3 (by decide))
  have nw : NewQ (w.heap.size + 4) (gQ n x) := ⟨a3, b2⟩
  refine ⟨hst.held (show Hold W (gQ n x) from ⟨a1, b1⟩) (all4 ⟨nw.off ?_, nw.off ?_, nw.off ?_, nw.off ?_⟩), nw, a2, b3⟩ <;> simp only [p4] <;> omega
/-- Another state, in new memory, is held instead. -/
theorem Wn.swap {N : Nat} {W0 : World} {p : Nat → Nat} {c : Nat → List Value} {m : Q2} (h : Wn N w W p c [n]) (hm : Hold W0 m) (ho : ∀ i, i < N → OffQ (p i) m) (hb : Below W.heap.size W W0) : Wn N w W0 p c [m] := by
  have nx := h.bare.next hb
  exact nx.held hm ho
end
/-- What a step leaves; what is left of the state's own memory lies where it lay, or in new memory. -/
def StOut (w : World) (n : Q2) (R : R3) (e : Ending) (w' : World) : Prop :=
  ∃ m : Q2, e = .returned (.tuple #[(.agg #[.slice m.s.w.a m.s.w.n m.s.w.c, .slice m.s.p.a m.s.p.n m.s.p.c, .slice (m.s.u 0).a (m.s.u 0).n (m.s.u 0).c, .slice (m.s.u 1).a (m.s.u 1).n (m.s.u 1).c, .slice (m.s.u 2).a (m.s.u 2).n (m.s.u 2).c, .slice m.s.c.a m.s.c.n m.s.c.c]), (.agg #[.int .i64 m.k.ph, .int .i64 m.k.ep, .bool m.k.mj, .slice m.k.wk.a m.k.wk.n m.k.wk.c, .bool m.k.ov, .int .i64 m.k.pa, .int .i64 m.k.pf, .int .i64 m.k.ps, .int .i64 m.k.pc, .bool m.k.me])]) ∧ Lens n.s m.s ∧ m.d = R.d ∧ m.xs = R.xs ∧ m.k = Sh.kw R.k m.k.wk R.k.ov ∧ Hold w' m ∧ (∀ B, B ≤ w.heap.size → NewQ B n → NewQ B m) ∧ Below w.heap.size w w'
/-- The state once a field is shaded. -/
def shQ (n : Q2) (a : Int) (s' : Hs) (v : Ls.Sl) : Q2 := ⟨s', Sh.kw n.k v (Sh.shO (white n.s n.d n.k a) n.xs n.k.ov), Sh.shD n.s n.d n.k.mj n.k.ep a, Sh.shX (white n.s n.d n.k a) n.xs a⟩
section
variable {N : Nat} {w W W' : World} {n : Q2} {p : Nat → Nat} {c : Nat → List Value} {a : Int} {s' t u : Hs} {v : Ls.Sl} {d : Hd_}
theorem sh_next (h : Wn N w W p c [n]) (hp : Hp W' W'.heap.size s' (Sh.shD n.s n.d n.k.mj n.k.ep a)) (hn : News W.heap.size s') (ha : Ls.Alling W W' v (Sh.shX (Sh.isC n.s n.d n.k.mj n.k.ep a 1) n.xs a)) : Wn N w W' p c [shQ n a s' v] :=
  (h.bare.next ha.bel).held ⟨hp, Mu.all_row9 ha.own⟩ fun _ hi => ⟨offh_new hn (h.lt hi), off_ge (own_lie ha) (h.lt hi)⟩
theorem sh_new (h : Wn N w W p c [n]) (hl : Lens n.s s') (hn : News W.heap.size s') (ha : Ls.Alling W W' v (Sh.shX (Sh.isC n.s n.d n.k.mj n.k.ep a 1) n.xs a)) : Lens n.s s' ∧ News w.heap.size s' ∧ (0 < v.n → ∀ x, v.a = some x → w.heap.size ≤ x.block) :=
  ⟨hl, news_le hn h.bel.size, fun h0 y hy => Nat.le_trans h.bel.size (own_lie ha h0 y hy)⟩
/-- .. with another collector whose list lies where it lay. -/
theorem Wn.swapk (h : Wn N w W p c [n]) (k : Sh.Ks) (hk : k.wk = n.k.wk := by rfl) : Wn N w W p c [⟨n.s, k, n.d, n.xs⟩] :=
  h.bare.held ⟨(h.at n (by simp)).h, by have := (h.at n (by simp)).c; unfold Sh.WRow at this ⊢; rw [hk]; exact this⟩ fun i hi => ⟨((h.hold n (by simp)).2 i hi).h, by rw [hk]; exact ((h.hold n (by simp)).2 i hi).k⟩
theorem bl_lens (hl : Lens s' t) (d : Hd_) (mj : Bool) (ep a : Int) : Sh.blD t d mj ep a = Sh.blD s' d mj ep a := by
  unfold Sh.blD
  rw [Sh.same_col hl]
theorem sh_lens (hl : Lens s' t) (d : Hd_) (mj : Bool) (ep a : Int) : Sh.shD t d mj ep a = Sh.shD s' d mj ep a := by
  unfold Sh.shD
  rw [Sh.same_col hl]
theorem lens_trans' (h : Lens s' t) (g : Lens t u) : Lens s' u := Sh.lens_trans h g
end
end Go.Proofs.YtccjelpfmkbmiaaGreatDoor.Tr
end
