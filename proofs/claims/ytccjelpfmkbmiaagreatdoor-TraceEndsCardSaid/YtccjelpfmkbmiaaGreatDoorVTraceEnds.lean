/-
  TraceEnds: where nothing else is done Sweep is reached, behind at most a quarter of the words' number squared, and 40 steps; if no black object led to a white one, none does then: for every heap of at most 9 pages and 130 words, and every work list of at most 100; the table of sizes is tied to the program's text by the card.
-/
import Derived.Test.YtccjelpfmkbmiaaGreatDoorVTrAwake
import Derived.Test.YtccjelpfmkbmiaaGreatDoorHpVM
namespace Go.Proofs.YtccjelpfmkbmiaaGreatDoor.TraceEnds
open Go.Proofs.YtccjelpfmkbmiaaGreatDoor Go.Proofs.YtccjelpfmkbmiaaGreatDoor.Rt Go.Proofs.YtccjelpfmkbmiaaGreatDoor.Tr
open Go.ChangeShapes Go.WideShapes Go.ChangeAt Go.RowKit Go.Deep
open Go.Proofs.YtccjelpfmkbmiaaGreatDoor.Mu (hv kv w_load w_store w_loadg ldHb ldKb stHb stKb st_int ld_int noHs0 noK0)
set_option maxRecDepth 100000

set_option maxHeartbeats 1000000 in
theorem walk_few (s : Hs) (d : Hd_) (k : Sh.Ks) (xs : List Int) (w : World) (hf : Sh.fewK s k = false) (hz : Cl.Sz w) (hp : Hp w w.heap.size s d) (_ : ∀ i, -9223372036854775808 ≤ d.ws.getD i 0 ∧ d.ws.getD i 0 ≤ 9223372036854775807) (hk : Sh.WRow w w.heap.size k xs) : Calls Tryz.prog 5 #[(.agg #[.slice s.w.a s.w.n s.w.c, .slice s.p.a s.p.n s.p.c, .slice (s.u 0).a (s.u 0).n (s.u 0).c, .slice (s.u 1).a (s.u 1).n (s.u 1).c, .slice (s.u 2).a (s.u 2).n (s.u 2).c, .slice s.c.a s.c.n s.c.c]), (.agg #[.int .i64 k.ph, .int .i64 k.ep, .bool k.mj, .slice k.wk.a k.wk.n k.wk.c, .bool k.ov, .int .i64 k.pa, .int .i64 k.pf, .int .i64 k.ps, .int .i64 k.pc, .bool k.me])] w fun e w' => e = .returned (.bool true) ∧ Below w.heap.size w w' := by
  have HZ := Lib.hid hz
  have CF := Lib.hid (fun W => Tr.few_any s k W)
  rw [hf] at CF
  go_enter Tryz.func5, Tryz.ntmps5
  go_upto_region 1 with fail
  obtain ⟨W1, hW1⟩ : ∃ W1, W1 = (w.alloc (.cells #[.slice s.w.a s.w.n s.w.c, .slice s.p.a s.p.n s.p.c, .slice (s.u 0).a (s.u 0).n (s.u 0).c, .slice (s.u 1).a (s.u 1).n (s.u 1).c, .slice (s.u 2).a (s.u 2).n (s.u 2).c, .slice s.c.a s.c.n s.c.c] 28)).alloc (.cells #[.int .i64 k.ph, .int .i64 k.ep, .bool k.mj, .slice k.wk.a k.wk.n k.wk.c, .bool k.ov, .int .i64 k.pa, .int .i64 k.pf, .int .i64 k.ps, .int .i64 k.pc, .bool k.me] 30) := ⟨_, rfl⟩
  have L1 := Lib.hid (((lq_none w).two (s := s) (k := k) hW1).held (n := (⟨s, k, d, xs⟩ : Q2)) ⟨hp.next (by rw [hW1]; exact ((Below.refl _ _).alloc (Nat.le_refl _) _).alloc (by simp) _), hk.next (by rw [hW1]; exact ((Below.refl _ _).alloc (Nat.le_refl _) _).alloc (by simp) _)⟩)
  rw [← hW1]
  clear hW1 hz hp hk hf
  go_upto_region 2 with ((go_at_call 22); (with_reducible refine (Tr.awake_any _ (L1.out.over HZ.out)).mono ?_); rintro e9 w2 ⟨rfl, hb9⟩; have L2 := Lib.hid (L1.out.next hb9); clear hb9 L1)
  go_upto_region 3 with (first
    | (refine w_load (ldHb (L2.out.bx (w.heap.size) (hv s) (by simp))) rfl rfl rfl rfl ?_)
    | (refine w_load (ldKb (L2.out.bx (w.heap.size + 1) (kv k) (by simp))) rfl rfl rfl rfl ?_)
    | ((go_at_call 23); (with_reducible refine (CF.out _).mono ?_); rintro e9 w3 ⟨rfl, hb9⟩; have L3 := Lib.hid (L2.out.next hb9); clear hb9 L2))
  go_wp2
  go_ret
  exact ⟨rfl, L3.out.bel⟩
theorem known_call (n : Q2) (w : World) (hn : In w n) : Calls Tryz.prog 25 #[(.agg #[.slice n.s.w.a n.s.w.n n.s.w.c, .slice n.s.p.a n.s.p.n n.s.p.c, .slice (n.s.u 0).a (n.s.u 0).n (n.s.u 0).c, .slice (n.s.u 1).a (n.s.u 1).n (n.s.u 1).c, .slice (n.s.u 2).a (n.s.u 2).n (n.s.u 2).c, .slice n.s.c.a n.s.c.n n.s.c.c]), (.agg #[.int .i64 n.k.ph, .int .i64 n.k.ep, .bool n.k.mj, .slice n.k.wk.a n.k.wk.n n.k.wk.c, .bool n.k.ov, .int .i64 n.k.pa, .int .i64 n.k.pf, .int .i64 n.k.ps, .int .i64 n.k.pc, .bool n.k.me])] w fun e w' => e = .returned (.int .i64 (knownI n.k n.xs (Sh.greyL n.s n.d n.k.mj n.k.ep))) ∧ Below w.heap.size w w' :=
  known_core n w _ (Nat.le_trans (Sh.grey_len _ _ _ _) (Nat.le_trans (used_len n.s n.d) (allS_len n.d.f n.s.p.n))) hn.hold hn.x fun W h => rgrey_any n W h hn.fine
theorem known_two (k : Sh.Ks) (xs G : List Int) : knownI k xs G = 0 ∨ knownI k xs G = 1 := by
  unfold knownI
  split <;> simp
theorem led_two (s : Hs) (d : Hd_) (mj : Bool) (ep : Int) : ledI s d mj ep = 0 ∨ ledI s d mj ep = 1 := by
  unfold ledI
  split <;> simp
theorem known_is {s : Hs} {d : Hd_} {k : Sh.Ks} {xs : List Int} (h : knownI k xs (Sh.greyL s d k.mj k.ep) = 0) : Known s d k xs := fun y hy => by
  unfold knownI at h
  split at h
  · next e => exact List.all_eq_true.1 e y (Sh.grey_mem.2 hy)
  · cases h
set_option maxHeartbeats 8000000 in
theorem walk_ph (s : Hs) (d : Hd_) (k : Sh.Ks) (xs : List Int) (w : World) (hf : Sh.fewK s k = true) (h5 : ¬ k.ph = 5) (hz : Cl.Sz w) (hp : Hp w w.heap.size s d) (hv : ∀ i, -9223372036854775808 ≤ d.ws.getD i 0 ∧ d.ws.getD i 0 ≤ 9223372036854775807) (hk : Sh.WRow w w.heap.size k xs) : Calls Tryz.prog 5 #[(.agg #[.slice s.w.a s.w.n s.w.c, .slice s.p.a s.p.n s.p.c, .slice (s.u 0).a (s.u 0).n (s.u 0).c, .slice (s.u 1).a (s.u 1).n (s.u 1).c, .slice (s.u 2).a (s.u 2).n (s.u 2).c, .slice s.c.a s.c.n s.c.c]), (.agg #[.int .i64 k.ph, .int .i64 k.ep, .bool k.mj, .slice k.wk.a k.wk.n k.wk.c, .bool k.ov, .int .i64 k.pa, .int .i64 k.pf, .int .i64 k.ps, .int .i64 k.pc, .bool k.me])] w fun e w' => e = .returned (.bool true) ∧ Below w.heap.size w w' := by
  obtain ⟨hin, hx, hwn, hlen⟩ := few_in hf hp hv hk hz
  have a1 : decide (k.ph = 5) = false := decide_eq_false h5
  have a2 : (k.ph == 5) = false := a1
  have a3 : (k.ph != 5) = true := by rw [bne, a2]; rfl
  clear hin hx hwn hlen h5
  have HZ := Lib.hid hz
  have CF := Lib.hid (fun W => Tr.few_any s k W)
  rw [hf] at CF
  go_enter Tryz.func5, Tryz.ntmps5
  go_upto_region 1 with fail
  obtain ⟨W1, hW1⟩ : ∃ W1, W1 = (w.alloc (.cells #[.slice s.w.a s.w.n s.w.c, .slice s.p.a s.p.n s.p.c, .slice (s.u 0).a (s.u 0).n (s.u 0).c, .slice (s.u 1).a (s.u 1).n (s.u 1).c, .slice (s.u 2).a (s.u 2).n (s.u 2).c, .slice s.c.a s.c.n s.c.c] 28)).alloc (.cells #[.int .i64 k.ph, .int .i64 k.ep, .bool k.mj, .slice k.wk.a k.wk.n k.wk.c, .bool k.ov, .int .i64 k.pa, .int .i64 k.pf, .int .i64 k.ps, .int .i64 k.pc, .bool k.me] 30) := ⟨_, rfl⟩
  have L1 := Lib.hid (((lq_none w).two (s := s) (k := k) hW1).held (n := (⟨s, k, d, xs⟩ : Q2)) ⟨hp.next (by rw [hW1]; exact ((Below.refl _ _).alloc (Nat.le_refl _) _).alloc (by simp) _), hk.next (by rw [hW1]; exact ((Below.refl _ _).alloc (Nat.le_refl _) _).alloc (by simp) _)⟩)
  rw [← hW1]
  clear hW1 hz hp hv hk hf
  go_upto_region 2 with ((go_at_call 22); (with_reducible refine (Tr.awake_any _ (L1.out.over HZ.out)).mono ?_); rintro e9 w2 ⟨rfl, hb9⟩; have L2 := Lib.hid (L1.out.next hb9); clear hb9 L1)
  go_upto_region 3 with (first
    | (refine w_load (ldHb (L2.out.bx (w.heap.size) (hv s) (by simp))) rfl rfl rfl rfl ?_)
    | (refine w_load (ldKb (L2.out.bx (w.heap.size + 1) (kv k) (by simp))) rfl rfl rfl rfl ?_)
    | ((go_at_call 23); (with_reducible refine (CF.out _).mono ?_); rintro e9 w3 ⟨rfl, hb9⟩; have L3 := Lib.hid (L2.out.next hb9); clear hb9 L2))
  have q0 := (L3.out.bx (w.heap.size + 1) (kv k) (by simp)).cel 0 (.int .i64 k.ph) rfl
  go_wp2
  go_ret
  exact ⟨rfl, L3.out.bel⟩
set_option maxHeartbeats 8000000 in
theorem walk_may (s : Hs) (d : Hd_) (k : Sh.Ks) (xs : List Int) (w : World) (hf : Sh.fewK s k = true) (h5 : k.ph = 5) (hm : mayB0 s d = false) (hz : Cl.Sz w) (hp : Hp w w.heap.size s d) (hv : ∀ i, -9223372036854775808 ≤ d.ws.getD i 0 ∧ d.ws.getD i 0 ≤ 9223372036854775807) (hk : Sh.WRow w w.heap.size k xs) : Calls Tryz.prog 5 #[(.agg #[.slice s.w.a s.w.n s.w.c, .slice s.p.a s.p.n s.p.c, .slice (s.u 0).a (s.u 0).n (s.u 0).c, .slice (s.u 1).a (s.u 1).n (s.u 1).c, .slice (s.u 2).a (s.u 2).n (s.u 2).c, .slice s.c.a s.c.n s.c.c]), (.agg #[.int .i64 k.ph, .int .i64 k.ep, .bool k.mj, .slice k.wk.a k.wk.n k.wk.c, .bool k.ov, .int .i64 k.pa, .int .i64 k.pf, .int .i64 k.ps, .int .i64 k.pc, .bool k.me])] w fun e w' => e = .returned (.bool true) ∧ Below w.heap.size w w' := by
  obtain ⟨hin, hx, hwn, hlen⟩ := few_in hf hp hv hk hz
  have CM := Lib.hid (fun W (hW : Hold W (⟨s, k, d, xs⟩ : Q2)) (hz : Cl.Sz W) => pmay0_any s d W hW.h hz hin.fine)
  rw [hm] at CM
  have a1 : decide (k.ph = 5) = true := decide_eq_true h5
  have a2 : (k.ph == 5) = true := a1
  have a3 : (k.ph != 5) = false := by rw [bne, a2]; rfl
  clear hin hx hwn hlen h5 hm
  have HZ := Lib.hid hz
  have CF := Lib.hid (fun W => Tr.few_any s k W)
  rw [hf] at CF
  go_enter Tryz.func5, Tryz.ntmps5
  go_upto_region 1 with fail
  obtain ⟨W1, hW1⟩ : ∃ W1, W1 = (w.alloc (.cells #[.slice s.w.a s.w.n s.w.c, .slice s.p.a s.p.n s.p.c, .slice (s.u 0).a (s.u 0).n (s.u 0).c, .slice (s.u 1).a (s.u 1).n (s.u 1).c, .slice (s.u 2).a (s.u 2).n (s.u 2).c, .slice s.c.a s.c.n s.c.c] 28)).alloc (.cells #[.int .i64 k.ph, .int .i64 k.ep, .bool k.mj, .slice k.wk.a k.wk.n k.wk.c, .bool k.ov, .int .i64 k.pa, .int .i64 k.pf, .int .i64 k.ps, .int .i64 k.pc, .bool k.me] 30) := ⟨_, rfl⟩
  have L1 := Lib.hid (((lq_none w).two (s := s) (k := k) hW1).held (n := (⟨s, k, d, xs⟩ : Q2)) ⟨hp.next (by rw [hW1]; exact ((Below.refl _ _).alloc (Nat.le_refl _) _).alloc (by simp) _), hk.next (by rw [hW1]; exact ((Below.refl _ _).alloc (Nat.le_refl _) _).alloc (by simp) _)⟩)
  rw [← hW1]
  clear hW1 hz hp hv hk hf
  go_upto_region 2 with ((go_at_call 22); (with_reducible refine (Tr.awake_any _ (L1.out.over HZ.out)).mono ?_); rintro e9 w2 ⟨rfl, hb9⟩; have L2 := Lib.hid (L1.out.next hb9); clear hb9 L1)
  go_upto_region 3 with (first
    | (refine w_load (ldHb (L2.out.bx (w.heap.size) (hv s) (by simp))) rfl rfl rfl rfl ?_)
    | (refine w_load (ldKb (L2.out.bx (w.heap.size + 1) (kv k) (by simp))) rfl rfl rfl rfl ?_)
    | ((go_at_call 23); (with_reducible refine (CF.out _).mono ?_); rintro e9 w3 ⟨rfl, hb9⟩; have L3 := Lib.hid (L2.out.next hb9); clear hb9 L2))
  have q0 := (L3.out.bx (w.heap.size + 1) (kv k) (by simp)).cel 0 (.int .i64 k.ph) rfl
  go_upto_region 5 with (first
    | (refine w_loadg (ldHb (L3.out.bx (w.heap.size) (hv s) (by simp))) rfl (by kernel_rfl) rfl rfl ?_)
    | fail)
  refine (CM.out _ (L3.out.at _ (by simp)) (L3.out.over HZ.out)).mono ?_
  rintro e9 vL4 ⟨rfl, hb9⟩
  have L4 := Lib.hid (L3.out.next hb9)
  clear hb9 L3
  clear q0
  go_wp2
  go_ret
  exact ⟨rfl, L4.out.bel⟩
set_option maxHeartbeats 8000000 in
theorem walk_known (s : Hs) (d : Hd_) (k : Sh.Ks) (xs : List Int) (w : World) (hf : Sh.fewK s k = true) (h5 : k.ph = 5) (hm : mayB0 s d = true) (hkn : knownI k xs (Sh.greyL s d k.mj k.ep) = 1) (hz : Cl.Sz w) (hp : Hp w w.heap.size s d) (hv : ∀ i, -9223372036854775808 ≤ d.ws.getD i 0 ∧ d.ws.getD i 0 ≤ 9223372036854775807) (hk : Sh.WRow w w.heap.size k xs) : Calls Tryz.prog 5 #[(.agg #[.slice s.w.a s.w.n s.w.c, .slice s.p.a s.p.n s.p.c, .slice (s.u 0).a (s.u 0).n (s.u 0).c, .slice (s.u 1).a (s.u 1).n (s.u 1).c, .slice (s.u 2).a (s.u 2).n (s.u 2).c, .slice s.c.a s.c.n s.c.c]), (.agg #[.int .i64 k.ph, .int .i64 k.ep, .bool k.mj, .slice k.wk.a k.wk.n k.wk.c, .bool k.ov, .int .i64 k.pa, .int .i64 k.pf, .int .i64 k.ps, .int .i64 k.pc, .bool k.me])] w fun e w' => e = .returned (.bool true) ∧ Below w.heap.size w w' := by
  obtain ⟨hin, hx, hwn, hlen⟩ := few_in hf hp hv hk hz
  have CM := Lib.hid (fun W (hW : Hold W (⟨s, k, d, xs⟩ : Q2)) (hz : Cl.Sz W) => pmay0_any s d W hW.h hz hin.fine)
  rw [hm] at CM
  have CK := Lib.hid (fun W (hW : Hold W (⟨s, k, d, xs⟩ : Q2)) (hz : Cl.Sz W) => known_call (⟨s, k, d, xs⟩ : Q2) W ⟨hW, hz, hin.fine, hin.x⟩)
  rw [show knownI (⟨s, k, d, xs⟩ : Q2).k (⟨s, k, d, xs⟩ : Q2).xs (Sh.greyL (⟨s, k, d, xs⟩ : Q2).s (⟨s, k, d, xs⟩ : Q2).d (⟨s, k, d, xs⟩ : Q2).k.mj (⟨s, k, d, xs⟩ : Q2).k.ep) = 1 from hkn] at CK
  have a1 : decide (k.ph = 5) = true := decide_eq_true h5
  have a2 : (k.ph == 5) = true := a1
  have a3 : (k.ph != 5) = false := by rw [bne, a2]; rfl
  clear hin hx hwn hlen h5 hm hkn
  have HZ := Lib.hid hz
  have CF := Lib.hid (fun W => Tr.few_any s k W)
  rw [hf] at CF
  go_enter Tryz.func5, Tryz.ntmps5
  go_upto_region 1 with fail
  obtain ⟨W1, hW1⟩ : ∃ W1, W1 = (w.alloc (.cells #[.slice s.w.a s.w.n s.w.c, .slice s.p.a s.p.n s.p.c, .slice (s.u 0).a (s.u 0).n (s.u 0).c, .slice (s.u 1).a (s.u 1).n (s.u 1).c, .slice (s.u 2).a (s.u 2).n (s.u 2).c, .slice s.c.a s.c.n s.c.c] 28)).alloc (.cells #[.int .i64 k.ph, .int .i64 k.ep, .bool k.mj, .slice k.wk.a k.wk.n k.wk.c, .bool k.ov, .int .i64 k.pa, .int .i64 k.pf, .int .i64 k.ps, .int .i64 k.pc, .bool k.me] 30) := ⟨_, rfl⟩
  have L1 := Lib.hid (((lq_none w).two (s := s) (k := k) hW1).held (n := (⟨s, k, d, xs⟩ : Q2)) ⟨hp.next (by rw [hW1]; exact ((Below.refl _ _).alloc (Nat.le_refl _) _).alloc (by simp) _), hk.next (by rw [hW1]; exact ((Below.refl _ _).alloc (Nat.le_refl _) _).alloc (by simp) _)⟩)
  rw [← hW1]
  clear hW1 hz hp hv hk hf
  go_upto_region 2 with ((go_at_call 22); (with_reducible refine (Tr.awake_any _ (L1.out.over HZ.out)).mono ?_); rintro e9 w2 ⟨rfl, hb9⟩; have L2 := Lib.hid (L1.out.next hb9); clear hb9 L1)
  go_upto_region 3 with (first
    | (refine w_load (ldHb (L2.out.bx (w.heap.size) (hv s) (by simp))) rfl rfl rfl rfl ?_)
    | (refine w_load (ldKb (L2.out.bx (w.heap.size + 1) (kv k) (by simp))) rfl rfl rfl rfl ?_)
    | ((go_at_call 23); (with_reducible refine (CF.out _).mono ?_); rintro e9 w3 ⟨rfl, hb9⟩; have L3 := Lib.hid (L2.out.next hb9); clear hb9 L2))
  have q0 := (L3.out.bx (w.heap.size + 1) (kv k) (by simp)).cel 0 (.int .i64 k.ph) rfl
  go_upto_region 5 with (first
    | (refine w_loadg (ldHb (L3.out.bx (w.heap.size) (hv s) (by simp))) rfl (by kernel_rfl) rfl rfl ?_)
    | fail)
  refine (CM.out _ (L3.out.at _ (by simp)) (L3.out.over HZ.out)).mono ?_
  rintro e9 vL4 ⟨rfl, hb9⟩
  have L4 := Lib.hid (L3.out.next hb9)
  clear hb9 L3
  clear q0
  go_upto_region 5 with (first
    | (refine w_loadg (ldHb (L4.out.bx (w.heap.size) (hv s) (by simp))) rfl (by kernel_rfl) rfl rfl ?_)
    | (refine w_loadg (ldKb (L4.out.bx (w.heap.size + 1) (kv k) (by simp))) rfl (by kernel_rfl) rfl rfl ?_)
    | fail)
  refine (CK.out _ (L4.out.at _ (by simp)) (L4.out.over HZ.out)).mono ?_
  rintro e9 vL5 ⟨rfl, hb9⟩
  have L5 := Lib.hid (L4.out.next hb9)
  clear hb9 L4
  go_wp2
  go_ret
  exact ⟨rfl, L5.out.bel⟩
set_option maxHeartbeats 8000000 in
theorem walk_led (s : Hs) (d : Hd_) (k : Sh.Ks) (xs : List Int) (w : World) (hf : Sh.fewK s k = true) (h5 : k.ph = 5) (hm : mayB0 s d = true) (hkn : knownI k xs (Sh.greyL s d k.mj k.ep) = 0) (hle : ledI s d k.mj k.ep = 1) (hz : Cl.Sz w) (hp : Hp w w.heap.size s d) (hv : ∀ i, -9223372036854775808 ≤ d.ws.getD i 0 ∧ d.ws.getD i 0 ≤ 9223372036854775807) (hk : Sh.WRow w w.heap.size k xs) : Calls Tryz.prog 5 #[(.agg #[.slice s.w.a s.w.n s.w.c, .slice s.p.a s.p.n s.p.c, .slice (s.u 0).a (s.u 0).n (s.u 0).c, .slice (s.u 1).a (s.u 1).n (s.u 1).c, .slice (s.u 2).a (s.u 2).n (s.u 2).c, .slice s.c.a s.c.n s.c.c]), (.agg #[.int .i64 k.ph, .int .i64 k.ep, .bool k.mj, .slice k.wk.a k.wk.n k.wk.c, .bool k.ov, .int .i64 k.pa, .int .i64 k.pf, .int .i64 k.ps, .int .i64 k.pc, .bool k.me])] w fun e w' => e = .returned (.bool true) ∧ Below w.heap.size w w' := by
  obtain ⟨hin, hx, hwn, hlen⟩ := few_in hf hp hv hk hz
  have CM := Lib.hid (fun W (hW : Hold W (⟨s, k, d, xs⟩ : Q2)) (hz : Cl.Sz W) => pmay0_any s d W hW.h hz hin.fine)
  rw [hm] at CM
  have CK := Lib.hid (fun W (hW : Hold W (⟨s, k, d, xs⟩ : Q2)) (hz : Cl.Sz W) => known_call (⟨s, k, d, xs⟩ : Q2) W ⟨hW, hz, hin.fine, hin.x⟩)
  rw [show knownI (⟨s, k, d, xs⟩ : Q2).k (⟨s, k, d, xs⟩ : Q2).xs (Sh.greyL (⟨s, k, d, xs⟩ : Q2).s (⟨s, k, d, xs⟩ : Q2).d (⟨s, k, d, xs⟩ : Q2).k.mj (⟨s, k, d, xs⟩ : Q2).k.ep) = 0 from hkn] at CK
  have CL := Lib.hid (fun W (hW : Hold W (⟨s, k, d, xs⟩ : Q2)) (hz : Cl.Sz W) => led_any (⟨s, k, d, xs⟩ : Q2) W ⟨hW, hz, hin.fine, hin.x⟩)
  rw [show ledI (⟨s, k, d, xs⟩ : Q2).s (⟨s, k, d, xs⟩ : Q2).d (⟨s, k, d, xs⟩ : Q2).k.mj (⟨s, k, d, xs⟩ : Q2).k.ep = 1 from hle] at CL
  have a1 : decide (k.ph = 5) = true := decide_eq_true h5
  have a2 : (k.ph == 5) = true := a1
  have a3 : (k.ph != 5) = false := by rw [bne, a2]; rfl
  clear hin hx hwn hlen h5 hm hkn hle
  have HZ := Lib.hid hz
  have CF := Lib.hid (fun W => Tr.few_any s k W)
  rw [hf] at CF
  go_enter Tryz.func5, Tryz.ntmps5
  go_upto_region 1 with fail
  obtain ⟨W1, hW1⟩ : ∃ W1, W1 = (w.alloc (.cells #[.slice s.w.a s.w.n s.w.c, .slice s.p.a s.p.n s.p.c, .slice (s.u 0).a (s.u 0).n (s.u 0).c, .slice (s.u 1).a (s.u 1).n (s.u 1).c, .slice (s.u 2).a (s.u 2).n (s.u 2).c, .slice s.c.a s.c.n s.c.c] 28)).alloc (.cells #[.int .i64 k.ph, .int .i64 k.ep, .bool k.mj, .slice k.wk.a k.wk.n k.wk.c, .bool k.ov, .int .i64 k.pa, .int .i64 k.pf, .int .i64 k.ps, .int .i64 k.pc, .bool k.me] 30) := ⟨_, rfl⟩
  have L1 := Lib.hid (((lq_none w).two (s := s) (k := k) hW1).held (n := (⟨s, k, d, xs⟩ : Q2)) ⟨hp.next (by rw [hW1]; exact ((Below.refl _ _).alloc (Nat.le_refl _) _).alloc (by simp) _), hk.next (by rw [hW1]; exact ((Below.refl _ _).alloc (Nat.le_refl _) _).alloc (by simp) _)⟩)
  rw [← hW1]
  clear hW1 hz hp hv hk hf
  go_upto_region 2 with ((go_at_call 22); (with_reducible refine (Tr.awake_any _ (L1.out.over HZ.out)).mono ?_); rintro e9 w2 ⟨rfl, hb9⟩; have L2 := Lib.hid (L1.out.next hb9); clear hb9 L1)
  go_upto_region 3 with (first
    | (refine w_load (ldHb (L2.out.bx (w.heap.size) (hv s) (by simp))) rfl rfl rfl rfl ?_)
    | (refine w_load (ldKb (L2.out.bx (w.heap.size + 1) (kv k) (by simp))) rfl rfl rfl rfl ?_)
    | ((go_at_call 23); (with_reducible refine (CF.out _).mono ?_); rintro e9 w3 ⟨rfl, hb9⟩; have L3 := Lib.hid (L2.out.next hb9); clear hb9 L2))
  have q0 := (L3.out.bx (w.heap.size + 1) (kv k) (by simp)).cel 0 (.int .i64 k.ph) rfl
  go_upto_region 5 with (first
    | (refine w_loadg (ldHb (L3.out.bx (w.heap.size) (hv s) (by simp))) rfl (by kernel_rfl) rfl rfl ?_)
    | fail)
  refine (CM.out _ (L3.out.at _ (by simp)) (L3.out.over HZ.out)).mono ?_
  rintro e9 vL4 ⟨rfl, hb9⟩
  have L4 := Lib.hid (L3.out.next hb9)
  clear hb9 L3
  clear q0
  go_upto_region 5 with (first
    | (refine w_loadg (ldHb (L4.out.bx (w.heap.size) (hv s) (by simp))) rfl (by kernel_rfl) rfl rfl ?_)
    | (refine w_loadg (ldKb (L4.out.bx (w.heap.size + 1) (kv k) (by simp))) rfl (by kernel_rfl) rfl rfl ?_)
    | fail)
  refine (CK.out _ (L4.out.at _ (by simp)) (L4.out.over HZ.out)).mono ?_
  rintro e9 vL5 ⟨rfl, hb9⟩
  have L5 := Lib.hid (L4.out.next hb9)
  clear hb9 L4
  go_upto_region 5 with (first
    | (refine w_loadg (ldHb (L5.out.bx (w.heap.size) (hv s) (by simp))) rfl (by kernel_rfl) rfl rfl ?_)
    | (refine w_loadg (ldKb (L5.out.bx (w.heap.size + 1) (kv k) (by simp))) rfl (by kernel_rfl) rfl rfl ?_)
    | fail)
  refine (CL.out _ (L5.out.at _ (by simp)) (L5.out.over HZ.out)).mono ?_
  rintro e9 vL6 ⟨rfl, hb9⟩
  have L6 := Lib.hid (L5.out.next hb9)
  clear hb9 L5
  go_wp2
  go_ret
  exact ⟨rfl, L6.out.bel⟩
set_option maxHeartbeats 8000000 in
theorem walk_work (s : Hs) (d : Hd_) (k : Sh.Ks) (xs : List Int) (w : World) (hf : Sh.fewK s k = true) (h5 : k.ph = 5) (hm : mayB0 s d = true) (hkn : knownI k xs (Sh.greyL s d k.mj k.ep) = 0) (hle : ledI s d k.mj k.ep = 0) (hwk : 4 < k.wk.n) (hz : Cl.Sz w) (hp : Hp w w.heap.size s d) (hv : ∀ i, -9223372036854775808 ≤ d.ws.getD i 0 ∧ d.ws.getD i 0 ≤ 9223372036854775807) (hk : Sh.WRow w w.heap.size k xs) : Calls Tryz.prog 5 #[(.agg #[.slice s.w.a s.w.n s.w.c, .slice s.p.a s.p.n s.p.c, .slice (s.u 0).a (s.u 0).n (s.u 0).c, .slice (s.u 1).a (s.u 1).n (s.u 1).c, .slice (s.u 2).a (s.u 2).n (s.u 2).c, .slice s.c.a s.c.n s.c.c]), (.agg #[.int .i64 k.ph, .int .i64 k.ep, .bool k.mj, .slice k.wk.a k.wk.n k.wk.c, .bool k.ov, .int .i64 k.pa, .int .i64 k.pf, .int .i64 k.ps, .int .i64 k.pc, .bool k.me])] w fun e w' => e = .returned (.bool true) ∧ Below w.heap.size w w' := by
  obtain ⟨hin, hx, hwn, hlen⟩ := few_in hf hp hv hk hz
  have CM := Lib.hid (fun W (hW : Hold W (⟨s, k, d, xs⟩ : Q2)) (hz : Cl.Sz W) => pmay0_any s d W hW.h hz hin.fine)
  rw [hm] at CM
  have CK := Lib.hid (fun W (hW : Hold W (⟨s, k, d, xs⟩ : Q2)) (hz : Cl.Sz W) => known_call (⟨s, k, d, xs⟩ : Q2) W ⟨hW, hz, hin.fine, hin.x⟩)
  rw [show knownI (⟨s, k, d, xs⟩ : Q2).k (⟨s, k, d, xs⟩ : Q2).xs (Sh.greyL (⟨s, k, d, xs⟩ : Q2).s (⟨s, k, d, xs⟩ : Q2).d (⟨s, k, d, xs⟩ : Q2).k.mj (⟨s, k, d, xs⟩ : Q2).k.ep) = 0 from hkn] at CK
  have CL := Lib.hid (fun W (hW : Hold W (⟨s, k, d, xs⟩ : Q2)) (hz : Cl.Sz W) => led_any (⟨s, k, d, xs⟩ : Q2) W ⟨hW, hz, hin.fine, hin.x⟩)
  rw [show ledI (⟨s, k, d, xs⟩ : Q2).s (⟨s, k, d, xs⟩ : Q2).d (⟨s, k, d, xs⟩ : Q2).k.mj (⟨s, k, d, xs⟩ : Q2).k.ep = 0 from hle] at CL
  have a1 : decide (k.ph = 5) = true := decide_eq_true h5
  have a2 : (k.ph == 5) = true := a1
  have a3 : (k.ph != 5) = false := by rw [bne, a2]; rfl
  have b1 : decide ((k.wk.n : Int) > 4) = true := decide_eq_true (by omega)
  have b2 : decide ((4 : Int) < k.wk.n) = true := b1
  clear hin hx hwn hlen h5 hm hkn hle hwk
  have HZ := Lib.hid hz
  have CF := Lib.hid (fun W => Tr.few_any s k W)
  rw [hf] at CF
  go_enter Tryz.func5, Tryz.ntmps5
  go_upto_region 1 with fail
  obtain ⟨W1, hW1⟩ : ∃ W1, W1 = (w.alloc (.cells #[.slice s.w.a s.w.n s.w.c, .slice s.p.a s.p.n s.p.c, .slice (s.u 0).a (s.u 0).n (s.u 0).c, .slice (s.u 1).a (s.u 1).n (s.u 1).c, .slice (s.u 2).a (s.u 2).n (s.u 2).c, .slice s.c.a s.c.n s.c.c] 28)).alloc (.cells #[.int .i64 k.ph, .int .i64 k.ep, .bool k.mj, .slice k.wk.a k.wk.n k.wk.c, .bool k.ov, .int .i64 k.pa, .int .i64 k.pf, .int .i64 k.ps, .int .i64 k.pc, .bool k.me] 30) := ⟨_, rfl⟩
  have L1 := Lib.hid (((lq_none w).two (s := s) (k := k) hW1).held (n := (⟨s, k, d, xs⟩ : Q2)) ⟨hp.next (by rw [hW1]; exact ((Below.refl _ _).alloc (Nat.le_refl _) _).alloc (by simp) _), hk.next (by rw [hW1]; exact ((Below.refl _ _).alloc (Nat.le_refl _) _).alloc (by simp) _)⟩)
  rw [← hW1]
  clear hW1 hz hp hv hk hf
  go_upto_region 2 with ((go_at_call 22); (with_reducible refine (Tr.awake_any _ (L1.out.over HZ.out)).mono ?_); rintro e9 w2 ⟨rfl, hb9⟩; have L2 := Lib.hid (L1.out.next hb9); clear hb9 L1)
  go_upto_region 3 with (first
    | (refine w_load (ldHb (L2.out.bx (w.heap.size) (hv s) (by simp))) rfl rfl rfl rfl ?_)
    | (refine w_load (ldKb (L2.out.bx (w.heap.size + 1) (kv k) (by simp))) rfl rfl rfl rfl ?_)
    | ((go_at_call 23); (with_reducible refine (CF.out _).mono ?_); rintro e9 w3 ⟨rfl, hb9⟩; have L3 := Lib.hid (L2.out.next hb9); clear hb9 L2))
  have q0 := (L3.out.bx (w.heap.size + 1) (kv k) (by simp)).cel 0 (.int .i64 k.ph) rfl
  go_upto_region 5 with (first
    | (refine w_loadg (ldHb (L3.out.bx (w.heap.size) (hv s) (by simp))) rfl (by kernel_rfl) rfl rfl ?_)
    | fail)
  refine (CM.out _ (L3.out.at _ (by simp)) (L3.out.over HZ.out)).mono ?_
  rintro e9 vL4 ⟨rfl, hb9⟩
  have L4 := Lib.hid (L3.out.next hb9)
  clear hb9 L3
  clear q0
  go_upto_region 5 with (first
    | (refine w_loadg (ldHb (L4.out.bx (w.heap.size) (hv s) (by simp))) rfl (by kernel_rfl) rfl rfl ?_)
    | (refine w_loadg (ldKb (L4.out.bx (w.heap.size + 1) (kv k) (by simp))) rfl (by kernel_rfl) rfl rfl ?_)
    | fail)
  refine (CK.out _ (L4.out.at _ (by simp)) (L4.out.over HZ.out)).mono ?_
  rintro e9 vL5 ⟨rfl, hb9⟩
  have L5 := Lib.hid (L4.out.next hb9)
  clear hb9 L4
  go_upto_region 5 with (first
    | (refine w_loadg (ldHb (L5.out.bx (w.heap.size) (hv s) (by simp))) rfl (by kernel_rfl) rfl rfl ?_)
    | (refine w_loadg (ldKb (L5.out.bx (w.heap.size + 1) (kv k) (by simp))) rfl (by kernel_rfl) rfl rfl ?_)
    | fail)
  refine (CL.out _ (L5.out.at _ (by simp)) (L5.out.over HZ.out)).mono ?_
  rintro e9 vL6 ⟨rfl, hb9⟩
  have L6 := Lib.hid (L5.out.next hb9)
  clear hb9 L5
  have q3 := (L6.out.bx (w.heap.size + 1) (kv k) (by simp)).cel 3 (.slice k.wk.a k.wk.n k.wk.c) rfl
  go_wp2
  go_ret
  exact ⟨rfl, L6.out.bel⟩
set_option maxHeartbeats 8000000 in
theorem walk_pa (s : Hs) (d : Hd_) (k : Sh.Ks) (xs : List Int) (w : World) (hf : Sh.fewK s k = true) (h5 : k.ph = 5) (hm : mayB0 s d = true) (hkn : knownI k xs (Sh.greyL s d k.mj k.ep) = 0) (hle : ledI s d k.mj k.ep = 0) (hwk : k.wk.n ≤ 4) (hpa : ¬ k.pa = 0) (hz : Cl.Sz w) (hp : Hp w w.heap.size s d) (hv : ∀ i, -9223372036854775808 ≤ d.ws.getD i 0 ∧ d.ws.getD i 0 ≤ 9223372036854775807) (hk : Sh.WRow w w.heap.size k xs) : Calls Tryz.prog 5 #[(.agg #[.slice s.w.a s.w.n s.w.c, .slice s.p.a s.p.n s.p.c, .slice (s.u 0).a (s.u 0).n (s.u 0).c, .slice (s.u 1).a (s.u 1).n (s.u 1).c, .slice (s.u 2).a (s.u 2).n (s.u 2).c, .slice s.c.a s.c.n s.c.c]), (.agg #[.int .i64 k.ph, .int .i64 k.ep, .bool k.mj, .slice k.wk.a k.wk.n k.wk.c, .bool k.ov, .int .i64 k.pa, .int .i64 k.pf, .int .i64 k.ps, .int .i64 k.pc, .bool k.me])] w fun e w' => e = .returned (.bool true) ∧ Below w.heap.size w w' := by
  obtain ⟨hin, hx, hwn, hlen⟩ := few_in hf hp hv hk hz
  have CM := Lib.hid (fun W (hW : Hold W (⟨s, k, d, xs⟩ : Q2)) (hz : Cl.Sz W) => pmay0_any s d W hW.h hz hin.fine)
  rw [hm] at CM
  have CK := Lib.hid (fun W (hW : Hold W (⟨s, k, d, xs⟩ : Q2)) (hz : Cl.Sz W) => known_call (⟨s, k, d, xs⟩ : Q2) W ⟨hW, hz, hin.fine, hin.x⟩)
  rw [show knownI (⟨s, k, d, xs⟩ : Q2).k (⟨s, k, d, xs⟩ : Q2).xs (Sh.greyL (⟨s, k, d, xs⟩ : Q2).s (⟨s, k, d, xs⟩ : Q2).d (⟨s, k, d, xs⟩ : Q2).k.mj (⟨s, k, d, xs⟩ : Q2).k.ep) = 0 from hkn] at CK
  have CL := Lib.hid (fun W (hW : Hold W (⟨s, k, d, xs⟩ : Q2)) (hz : Cl.Sz W) => led_any (⟨s, k, d, xs⟩ : Q2) W ⟨hW, hz, hin.fine, hin.x⟩)
  rw [show ledI (⟨s, k, d, xs⟩ : Q2).s (⟨s, k, d, xs⟩ : Q2).d (⟨s, k, d, xs⟩ : Q2).k.mj (⟨s, k, d, xs⟩ : Q2).k.ep = 0 from hle] at CL
  have a1 : decide (k.ph = 5) = true := decide_eq_true h5
  have a2 : (k.ph == 5) = true := a1
  have a3 : (k.ph != 5) = false := by rw [bne, a2]; rfl
  have b1 : decide ((k.wk.n : Int) > 4) = false := decide_eq_false (by omega)
  have b2 : decide ((4 : Int) < k.wk.n) = false := b1
  have c1 : decide (k.pa = 0) = false := decide_eq_false hpa
  have c2 : (k.pa == 0) = false := c1
  have c3 : (k.pa != 0) = true := by rw [bne, c2]; rfl
  clear hin hx hwn hlen h5 hm hkn hle hwk hpa
  have HZ := Lib.hid hz
  have CF := Lib.hid (fun W => Tr.few_any s k W)
  rw [hf] at CF
  go_enter Tryz.func5, Tryz.ntmps5
  go_upto_region 1 with fail
  obtain ⟨W1, hW1⟩ : ∃ W1, W1 = (w.alloc (.cells #[.slice s.w.a s.w.n s.w.c, .slice s.p.a s.p.n s.p.c, .slice (s.u 0).a (s.u 0).n (s.u 0).c, .slice (s.u 1).a (s.u 1).n (s.u 1).c, .slice (s.u 2).a (s.u 2).n (s.u 2).c, .slice s.c.a s.c.n s.c.c] 28)).alloc (.cells #[.int .i64 k.ph, .int .i64 k.ep, .bool k.mj, .slice k.wk.a k.wk.n k.wk.c, .bool k.ov, .int .i64 k.pa, .int .i64 k.pf, .int .i64 k.ps, .int .i64 k.pc, .bool k.me] 30) := ⟨_, rfl⟩
  have L1 := Lib.hid (((lq_none w).two (s := s) (k := k) hW1).held (n := (⟨s, k, d, xs⟩ : Q2)) ⟨hp.next (by rw [hW1]; exact ((Below.refl _ _).alloc (Nat.le_refl _) _).alloc (by simp) _), hk.next (by rw [hW1]; exact ((Below.refl _ _).alloc (Nat.le_refl _) _).alloc (by simp) _)⟩)
  rw [← hW1]
  clear hW1 hz hp hv hk hf
  go_upto_region 2 with ((go_at_call 22); (with_reducible refine (Tr.awake_any _ (L1.out.over HZ.out)).mono ?_); rintro e9 w2 ⟨rfl, hb9⟩; have L2 := Lib.hid (L1.out.next hb9); clear hb9 L1)
  go_upto_region 3 with (first
    | (refine w_load (ldHb (L2.out.bx (w.heap.size) (hv s) (by simp))) rfl rfl rfl rfl ?_)
    | (refine w_load (ldKb (L2.out.bx (w.heap.size + 1) (kv k) (by simp))) rfl rfl rfl rfl ?_)
    | ((go_at_call 23); (with_reducible refine (CF.out _).mono ?_); rintro e9 w3 ⟨rfl, hb9⟩; have L3 := Lib.hid (L2.out.next hb9); clear hb9 L2))
  have q0 := (L3.out.bx (w.heap.size + 1) (kv k) (by simp)).cel 0 (.int .i64 k.ph) rfl
  go_upto_region 5 with (first
    | (refine w_loadg (ldHb (L3.out.bx (w.heap.size) (hv s) (by simp))) rfl (by kernel_rfl) rfl rfl ?_)
    | fail)
  refine (CM.out _ (L3.out.at _ (by simp)) (L3.out.over HZ.out)).mono ?_
  rintro e9 vL4 ⟨rfl, hb9⟩
  have L4 := Lib.hid (L3.out.next hb9)
  clear hb9 L3
  clear q0
  go_upto_region 5 with (first
    | (refine w_loadg (ldHb (L4.out.bx (w.heap.size) (hv s) (by simp))) rfl (by kernel_rfl) rfl rfl ?_)
    | (refine w_loadg (ldKb (L4.out.bx (w.heap.size + 1) (kv k) (by simp))) rfl (by kernel_rfl) rfl rfl ?_)
    | fail)
  refine (CK.out _ (L4.out.at _ (by simp)) (L4.out.over HZ.out)).mono ?_
  rintro e9 vL5 ⟨rfl, hb9⟩
  have L5 := Lib.hid (L4.out.next hb9)
  clear hb9 L4
  go_upto_region 5 with (first
    | (refine w_loadg (ldHb (L5.out.bx (w.heap.size) (hv s) (by simp))) rfl (by kernel_rfl) rfl rfl ?_)
    | (refine w_loadg (ldKb (L5.out.bx (w.heap.size + 1) (kv k) (by simp))) rfl (by kernel_rfl) rfl rfl ?_)
    | fail)
  refine (CL.out _ (L5.out.at _ (by simp)) (L5.out.over HZ.out)).mono ?_
  rintro e9 vL6 ⟨rfl, hb9⟩
  have L6 := Lib.hid (L5.out.next hb9)
  clear hb9 L5
  have q3 := (L6.out.bx (w.heap.size + 1) (kv k) (by simp)).cel 3 (.slice k.wk.a k.wk.n k.wk.c) rfl
  have q5 := (L6.out.bx (w.heap.size + 1) (kv k) (by simp)).cel 5 (.int .i64 k.pa) rfl
  go_wp2
  go_ret
  exact ⟨rfl, L6.out.bel⟩
set_option maxHeartbeats 8000000 in
theorem walk_pf (s : Hs) (d : Hd_) (k : Sh.Ks) (xs : List Int) (w : World) (hf : Sh.fewK s k = true) (h5 : k.ph = 5) (hm : mayB0 s d = true) (hkn : knownI k xs (Sh.greyL s d k.mj k.ep) = 0) (hle : ledI s d k.mj k.ep = 0) (hwk : k.wk.n ≤ 4) (hpa : k.pa = 0) (hpf : ¬ k.pf = 0) (hz : Cl.Sz w) (hp : Hp w w.heap.size s d) (hv : ∀ i, -9223372036854775808 ≤ d.ws.getD i 0 ∧ d.ws.getD i 0 ≤ 9223372036854775807) (hk : Sh.WRow w w.heap.size k xs) : Calls Tryz.prog 5 #[(.agg #[.slice s.w.a s.w.n s.w.c, .slice s.p.a s.p.n s.p.c, .slice (s.u 0).a (s.u 0).n (s.u 0).c, .slice (s.u 1).a (s.u 1).n (s.u 1).c, .slice (s.u 2).a (s.u 2).n (s.u 2).c, .slice s.c.a s.c.n s.c.c]), (.agg #[.int .i64 k.ph, .int .i64 k.ep, .bool k.mj, .slice k.wk.a k.wk.n k.wk.c, .bool k.ov, .int .i64 k.pa, .int .i64 k.pf, .int .i64 k.ps, .int .i64 k.pc, .bool k.me])] w fun e w' => e = .returned (.bool true) ∧ Below w.heap.size w w' := by
  obtain ⟨hin, hx, hwn, hlen⟩ := few_in hf hp hv hk hz
  have CM := Lib.hid (fun W (hW : Hold W (⟨s, k, d, xs⟩ : Q2)) (hz : Cl.Sz W) => pmay0_any s d W hW.h hz hin.fine)
  rw [hm] at CM
  have CK := Lib.hid (fun W (hW : Hold W (⟨s, k, d, xs⟩ : Q2)) (hz : Cl.Sz W) => known_call (⟨s, k, d, xs⟩ : Q2) W ⟨hW, hz, hin.fine, hin.x⟩)
  rw [show knownI (⟨s, k, d, xs⟩ : Q2).k (⟨s, k, d, xs⟩ : Q2).xs (Sh.greyL (⟨s, k, d, xs⟩ : Q2).s (⟨s, k, d, xs⟩ : Q2).d (⟨s, k, d, xs⟩ : Q2).k.mj (⟨s, k, d, xs⟩ : Q2).k.ep) = 0 from hkn] at CK
  have CL := Lib.hid (fun W (hW : Hold W (⟨s, k, d, xs⟩ : Q2)) (hz : Cl.Sz W) => led_any (⟨s, k, d, xs⟩ : Q2) W ⟨hW, hz, hin.fine, hin.x⟩)
  rw [show ledI (⟨s, k, d, xs⟩ : Q2).s (⟨s, k, d, xs⟩ : Q2).d (⟨s, k, d, xs⟩ : Q2).k.mj (⟨s, k, d, xs⟩ : Q2).k.ep = 0 from hle] at CL
  have a1 : decide (k.ph = 5) = true := decide_eq_true h5
  have a2 : (k.ph == 5) = true := a1
  have a3 : (k.ph != 5) = false := by rw [bne, a2]; rfl
  have b1 : decide ((k.wk.n : Int) > 4) = false := decide_eq_false (by omega)
  have b2 : decide ((4 : Int) < k.wk.n) = false := b1
  have c1 : decide (k.pa = 0) = true := decide_eq_true hpa
  have c2 : (k.pa == 0) = true := c1
  have c3 : (k.pa != 0) = false := by rw [bne, c2]; rfl
  have d1 : decide (k.pf = 0) = false := decide_eq_false hpf
  have d2 : (k.pf == 0) = false := d1
  have d3 : (k.pf != 0) = true := by rw [bne, d2]; rfl
  clear hin hx hwn hlen h5 hm hkn hle hwk hpa hpf
  have HZ := Lib.hid hz
  have CF := Lib.hid (fun W => Tr.few_any s k W)
  rw [hf] at CF
  go_enter Tryz.func5, Tryz.ntmps5
  go_upto_region 1 with fail
  obtain ⟨W1, hW1⟩ : ∃ W1, W1 = (w.alloc (.cells #[.slice s.w.a s.w.n s.w.c, .slice s.p.a s.p.n s.p.c, .slice (s.u 0).a (s.u 0).n (s.u 0).c, .slice (s.u 1).a (s.u 1).n (s.u 1).c, .slice (s.u 2).a (s.u 2).n (s.u 2).c, .slice s.c.a s.c.n s.c.c] 28)).alloc (.cells #[.int .i64 k.ph, .int .i64 k.ep, .bool k.mj, .slice k.wk.a k.wk.n k.wk.c, .bool k.ov, .int .i64 k.pa, .int .i64 k.pf, .int .i64 k.ps, .int .i64 k.pc, .bool k.me] 30) := ⟨_, rfl⟩
  have L1 := Lib.hid (((lq_none w).two (s := s) (k := k) hW1).held (n := (⟨s, k, d, xs⟩ : Q2)) ⟨hp.next (by rw [hW1]; exact ((Below.refl _ _).alloc (Nat.le_refl _) _).alloc (by simp) _), hk.next (by rw [hW1]; exact ((Below.refl _ _).alloc (Nat.le_refl _) _).alloc (by simp) _)⟩)
  rw [← hW1]
  clear hW1 hz hp hv hk hf
  go_upto_region 2 with ((go_at_call 22); (with_reducible refine (Tr.awake_any _ (L1.out.over HZ.out)).mono ?_); rintro e9 w2 ⟨rfl, hb9⟩; have L2 := Lib.hid (L1.out.next hb9); clear hb9 L1)
  go_upto_region 3 with (first
    | (refine w_load (ldHb (L2.out.bx (w.heap.size) (hv s) (by simp))) rfl rfl rfl rfl ?_)
    | (refine w_load (ldKb (L2.out.bx (w.heap.size + 1) (kv k) (by simp))) rfl rfl rfl rfl ?_)
    | ((go_at_call 23); (with_reducible refine (CF.out _).mono ?_); rintro e9 w3 ⟨rfl, hb9⟩; have L3 := Lib.hid (L2.out.next hb9); clear hb9 L2))
  have q0 := (L3.out.bx (w.heap.size + 1) (kv k) (by simp)).cel 0 (.int .i64 k.ph) rfl
  go_upto_region 5 with (first
    | (refine w_loadg (ldHb (L3.out.bx (w.heap.size) (hv s) (by simp))) rfl (by kernel_rfl) rfl rfl ?_)
    | fail)
  refine (CM.out _ (L3.out.at _ (by simp)) (L3.out.over HZ.out)).mono ?_
  rintro e9 vL4 ⟨rfl, hb9⟩
  have L4 := Lib.hid (L3.out.next hb9)
  clear hb9 L3
  clear q0
  go_upto_region 5 with (first
    | (refine w_loadg (ldHb (L4.out.bx (w.heap.size) (hv s) (by simp))) rfl (by kernel_rfl) rfl rfl ?_)
    | (refine w_loadg (ldKb (L4.out.bx (w.heap.size + 1) (kv k) (by simp))) rfl (by kernel_rfl) rfl rfl ?_)
    | fail)
  refine (CK.out _ (L4.out.at _ (by simp)) (L4.out.over HZ.out)).mono ?_
  rintro e9 vL5 ⟨rfl, hb9⟩
  have L5 := Lib.hid (L4.out.next hb9)
  clear hb9 L4
  go_upto_region 5 with (first
    | (refine w_loadg (ldHb (L5.out.bx (w.heap.size) (hv s) (by simp))) rfl (by kernel_rfl) rfl rfl ?_)
    | (refine w_loadg (ldKb (L5.out.bx (w.heap.size + 1) (kv k) (by simp))) rfl (by kernel_rfl) rfl rfl ?_)
    | fail)
  refine (CL.out _ (L5.out.at _ (by simp)) (L5.out.over HZ.out)).mono ?_
  rintro e9 vL6 ⟨rfl, hb9⟩
  have L6 := Lib.hid (L5.out.next hb9)
  clear hb9 L5
  have q3 := (L6.out.bx (w.heap.size + 1) (kv k) (by simp)).cel 3 (.slice k.wk.a k.wk.n k.wk.c) rfl
  have q5 := (L6.out.bx (w.heap.size + 1) (kv k) (by simp)).cel 5 (.int .i64 k.pa) rfl
  have q6 := (L6.out.bx (w.heap.size + 1) (kv k) (by simp)).cel 6 (.int .i64 k.pf) rfl
  go_wp2
  go_ret
  exact ⟨rfl, L6.out.bel⟩
set_option maxHeartbeats 8000000 in
theorem walk_ps (s : Hs) (d : Hd_) (k : Sh.Ks) (xs : List Int) (w : World) (hf : Sh.fewK s k = true) (h5 : k.ph = 5) (hm : mayB0 s d = true) (hkn : knownI k xs (Sh.greyL s d k.mj k.ep) = 0) (hle : ledI s d k.mj k.ep = 0) (hwk : k.wk.n ≤ 4) (hpa : k.pa = 0) (hpf : k.pf = 0) (hps : ¬ k.ps = 0) (hz : Cl.Sz w) (hp : Hp w w.heap.size s d) (hv : ∀ i, -9223372036854775808 ≤ d.ws.getD i 0 ∧ d.ws.getD i 0 ≤ 9223372036854775807) (hk : Sh.WRow w w.heap.size k xs) : Calls Tryz.prog 5 #[(.agg #[.slice s.w.a s.w.n s.w.c, .slice s.p.a s.p.n s.p.c, .slice (s.u 0).a (s.u 0).n (s.u 0).c, .slice (s.u 1).a (s.u 1).n (s.u 1).c, .slice (s.u 2).a (s.u 2).n (s.u 2).c, .slice s.c.a s.c.n s.c.c]), (.agg #[.int .i64 k.ph, .int .i64 k.ep, .bool k.mj, .slice k.wk.a k.wk.n k.wk.c, .bool k.ov, .int .i64 k.pa, .int .i64 k.pf, .int .i64 k.ps, .int .i64 k.pc, .bool k.me])] w fun e w' => e = .returned (.bool true) ∧ Below w.heap.size w w' := by
  obtain ⟨hin, hx, hwn, hlen⟩ := few_in hf hp hv hk hz
  have CM := Lib.hid (fun W (hW : Hold W (⟨s, k, d, xs⟩ : Q2)) (hz : Cl.Sz W) => pmay0_any s d W hW.h hz hin.fine)
  rw [hm] at CM
  have CK := Lib.hid (fun W (hW : Hold W (⟨s, k, d, xs⟩ : Q2)) (hz : Cl.Sz W) => known_call (⟨s, k, d, xs⟩ : Q2) W ⟨hW, hz, hin.fine, hin.x⟩)
  rw [show knownI (⟨s, k, d, xs⟩ : Q2).k (⟨s, k, d, xs⟩ : Q2).xs (Sh.greyL (⟨s, k, d, xs⟩ : Q2).s (⟨s, k, d, xs⟩ : Q2).d (⟨s, k, d, xs⟩ : Q2).k.mj (⟨s, k, d, xs⟩ : Q2).k.ep) = 0 from hkn] at CK
  have CL := Lib.hid (fun W (hW : Hold W (⟨s, k, d, xs⟩ : Q2)) (hz : Cl.Sz W) => led_any (⟨s, k, d, xs⟩ : Q2) W ⟨hW, hz, hin.fine, hin.x⟩)
  rw [show ledI (⟨s, k, d, xs⟩ : Q2).s (⟨s, k, d, xs⟩ : Q2).d (⟨s, k, d, xs⟩ : Q2).k.mj (⟨s, k, d, xs⟩ : Q2).k.ep = 0 from hle] at CL
  have a1 : decide (k.ph = 5) = true := decide_eq_true h5
  have a2 : (k.ph == 5) = true := a1
  have a3 : (k.ph != 5) = false := by rw [bne, a2]; rfl
  have b1 : decide ((k.wk.n : Int) > 4) = false := decide_eq_false (by omega)
  have b2 : decide ((4 : Int) < k.wk.n) = false := b1
  have c1 : decide (k.pa = 0) = true := decide_eq_true hpa
  have c2 : (k.pa == 0) = true := c1
  have c3 : (k.pa != 0) = false := by rw [bne, c2]; rfl
  have d1 : decide (k.pf = 0) = true := decide_eq_true hpf
  have d2 : (k.pf == 0) = true := d1
  have d3 : (k.pf != 0) = false := by rw [bne, d2]; rfl
  have e1 : decide (k.ps = 0) = false := decide_eq_false hps
  have e2 : (k.ps == 0) = false := e1
  have e3 : (k.ps != 0) = true := by rw [bne, e2]; rfl
  clear hin hx hwn hlen h5 hm hkn hle hwk hpa hpf hps
  have HZ := Lib.hid hz
  have CF := Lib.hid (fun W => Tr.few_any s k W)
  rw [hf] at CF
  go_enter Tryz.func5, Tryz.ntmps5
  go_upto_region 1 with fail
  obtain ⟨W1, hW1⟩ : ∃ W1, W1 = (w.alloc (.cells #[.slice s.w.a s.w.n s.w.c, .slice s.p.a s.p.n s.p.c, .slice (s.u 0).a (s.u 0).n (s.u 0).c, .slice (s.u 1).a (s.u 1).n (s.u 1).c, .slice (s.u 2).a (s.u 2).n (s.u 2).c, .slice s.c.a s.c.n s.c.c] 28)).alloc (.cells #[.int .i64 k.ph, .int .i64 k.ep, .bool k.mj, .slice k.wk.a k.wk.n k.wk.c, .bool k.ov, .int .i64 k.pa, .int .i64 k.pf, .int .i64 k.ps, .int .i64 k.pc, .bool k.me] 30) := ⟨_, rfl⟩
  have L1 := Lib.hid (((lq_none w).two (s := s) (k := k) hW1).held (n := (⟨s, k, d, xs⟩ : Q2)) ⟨hp.next (by rw [hW1]; exact ((Below.refl _ _).alloc (Nat.le_refl _) _).alloc (by simp) _), hk.next (by rw [hW1]; exact ((Below.refl _ _).alloc (Nat.le_refl _) _).alloc (by simp) _)⟩)
  rw [← hW1]
  clear hW1 hz hp hv hk hf
  go_upto_region 2 with ((go_at_call 22); (with_reducible refine (Tr.awake_any _ (L1.out.over HZ.out)).mono ?_); rintro e9 w2 ⟨rfl, hb9⟩; have L2 := Lib.hid (L1.out.next hb9); clear hb9 L1)
  go_upto_region 3 with (first
    | (refine w_load (ldHb (L2.out.bx (w.heap.size) (hv s) (by simp))) rfl rfl rfl rfl ?_)
    | (refine w_load (ldKb (L2.out.bx (w.heap.size + 1) (kv k) (by simp))) rfl rfl rfl rfl ?_)
    | ((go_at_call 23); (with_reducible refine (CF.out _).mono ?_); rintro e9 w3 ⟨rfl, hb9⟩; have L3 := Lib.hid (L2.out.next hb9); clear hb9 L2))
  have q0 := (L3.out.bx (w.heap.size + 1) (kv k) (by simp)).cel 0 (.int .i64 k.ph) rfl
  go_upto_region 5 with (first
    | (refine w_loadg (ldHb (L3.out.bx (w.heap.size) (hv s) (by simp))) rfl (by kernel_rfl) rfl rfl ?_)
    | fail)
  refine (CM.out _ (L3.out.at _ (by simp)) (L3.out.over HZ.out)).mono ?_
  rintro e9 vL4 ⟨rfl, hb9⟩
  have L4 := Lib.hid (L3.out.next hb9)
  clear hb9 L3
  clear q0
  go_upto_region 5 with (first
    | (refine w_loadg (ldHb (L4.out.bx (w.heap.size) (hv s) (by simp))) rfl (by kernel_rfl) rfl rfl ?_)
    | (refine w_loadg (ldKb (L4.out.bx (w.heap.size + 1) (kv k) (by simp))) rfl (by kernel_rfl) rfl rfl ?_)
    | fail)
  refine (CK.out _ (L4.out.at _ (by simp)) (L4.out.over HZ.out)).mono ?_
  rintro e9 vL5 ⟨rfl, hb9⟩
  have L5 := Lib.hid (L4.out.next hb9)
  clear hb9 L4
  go_upto_region 5 with (first
    | (refine w_loadg (ldHb (L5.out.bx (w.heap.size) (hv s) (by simp))) rfl (by kernel_rfl) rfl rfl ?_)
    | (refine w_loadg (ldKb (L5.out.bx (w.heap.size + 1) (kv k) (by simp))) rfl (by kernel_rfl) rfl rfl ?_)
    | fail)
  refine (CL.out _ (L5.out.at _ (by simp)) (L5.out.over HZ.out)).mono ?_
  rintro e9 vL6 ⟨rfl, hb9⟩
  have L6 := Lib.hid (L5.out.next hb9)
  clear hb9 L5
  have q3 := (L6.out.bx (w.heap.size + 1) (kv k) (by simp)).cel 3 (.slice k.wk.a k.wk.n k.wk.c) rfl
  have q5 := (L6.out.bx (w.heap.size + 1) (kv k) (by simp)).cel 5 (.int .i64 k.pa) rfl
  have q6 := (L6.out.bx (w.heap.size + 1) (kv k) (by simp)).cel 6 (.int .i64 k.pf) rfl
  have q7 := (L6.out.bx (w.heap.size + 1) (kv k) (by simp)).cel 7 (.int .i64 k.ps) rfl
  go_wp2
  go_ret
  exact ⟨rfl, L6.out.bel⟩
set_option maxHeartbeats 8000000 in
theorem walk_steps (s : Hs) (d : Hd_) (k : Sh.Ks) (xs : List Int) (w : World) (hf : Sh.fewK s k = true) (h5 : k.ph = 5) (hm : mayB0 s d = true) (hkn : knownI k xs (Sh.greyL s d k.mj k.ep) = 0) (hle : ledI s d k.mj k.ep = 0) (hwk : k.wk.n ≤ 4) (hpa : k.pa = 0) (hpf : k.pf = 0) (hps : k.ps = 0) (hz : Cl.Sz w) (hp : Hp w w.heap.size s d) (hv : ∀ i, -9223372036854775808 ≤ d.ws.getD i 0 ∧ d.ws.getD i 0 ≤ 9223372036854775807) (hk : Sh.WRow w w.heap.size k xs) : Calls Tryz.prog 5 #[(.agg #[.slice s.w.a s.w.n s.w.c, .slice s.p.a s.p.n s.p.c, .slice (s.u 0).a (s.u 0).n (s.u 0).c, .slice (s.u 1).a (s.u 1).n (s.u 1).c, .slice (s.u 2).a (s.u 2).n (s.u 2).c, .slice s.c.a s.c.n s.c.c]), (.agg #[.int .i64 k.ph, .int .i64 k.ep, .bool k.mj, .slice k.wk.a k.wk.n k.wk.c, .bool k.ov, .int .i64 k.pa, .int .i64 k.pf, .int .i64 k.ps, .int .i64 k.pc, .bool k.me])] w fun e w' => e = .returned (.bool true) ∧ Below w.heap.size w w' := by
  obtain ⟨hin, hx, hwn, hlen⟩ := few_in hf hp hv hk hz
  have CM := Lib.hid (fun W (hW : Hold W (⟨s, k, d, xs⟩ : Q2)) (hz : Cl.Sz W) => pmay0_any s d W hW.h hz hin.fine)
  rw [hm] at CM
  have CK := Lib.hid (fun W (hW : Hold W (⟨s, k, d, xs⟩ : Q2)) (hz : Cl.Sz W) => known_call (⟨s, k, d, xs⟩ : Q2) W ⟨hW, hz, hin.fine, hin.x⟩)
  rw [show knownI (⟨s, k, d, xs⟩ : Q2).k (⟨s, k, d, xs⟩ : Q2).xs (Sh.greyL (⟨s, k, d, xs⟩ : Q2).s (⟨s, k, d, xs⟩ : Q2).d (⟨s, k, d, xs⟩ : Q2).k.mj (⟨s, k, d, xs⟩ : Q2).k.ep) = 0 from hkn] at CK
  have CL := Lib.hid (fun W (hW : Hold W (⟨s, k, d, xs⟩ : Q2)) (hz : Cl.Sz W) => led_any (⟨s, k, d, xs⟩ : Q2) W ⟨hW, hz, hin.fine, hin.x⟩)
  rw [show ledI (⟨s, k, d, xs⟩ : Q2).s (⟨s, k, d, xs⟩ : Q2).d (⟨s, k, d, xs⟩ : Q2).k.mj (⟨s, k, d, xs⟩ : Q2).k.ep = 0 from hle] at CL
  have a1 : decide (k.ph = 5) = true := decide_eq_true h5
  have a2 : (k.ph == 5) = true := a1
  have a3 : (k.ph != 5) = false := by rw [bne, a2]; rfl
  have b1 : decide ((k.wk.n : Int) > 4) = false := decide_eq_false (by omega)
  have b2 : decide ((4 : Int) < k.wk.n) = false := b1
  have c1 : decide (k.pa = 0) = true := decide_eq_true hpa
  have c2 : (k.pa == 0) = true := c1
  have c3 : (k.pa != 0) = false := by rw [bne, c2]; rfl
  have d1 : decide (k.pf = 0) = true := decide_eq_true hpf
  have d2 : (k.pf == 0) = true := d1
  have d3 : (k.pf != 0) = false := by rw [bne, d2]; rfl
  have e1 : decide (k.ps = 0) = true := decide_eq_true hps
  have e2 : (k.ps == 0) = true := e1
  have e3 : (k.ps != 0) = false := by rw [bne, e2]; rfl
  have hp9 : s.p.n ≤ 9 := by
    have h := hf
    unfold Sh.fewK at h
    rw [Bool.and_eq_true] at h
    exact (few_parts h.1).2.1
  have hx4 : xs.length ≤ 4 := by rw [← hk.len]; exact hwk
  have hw16 : s.w.n = 16 * s.p.n := (fit_w (mayH_all hm).1).2
  have HS := Lib.hid (start_end (xs := xs) hm hin.fine hlen h5 (known_is hkn) (led_iff.1 hle) hx4 hpa hpf)
  have hls := left_start (s := s) (d := d) (k := k) (xs := xs) hm hp9 hpa hps hx4
  obtain ⟨n0, hn0⟩ : ∃ n0 : Nat, (n0 : Int) = (s.w.n : Int) * (s.w.n : Int) / 4 + 40 := ⟨((s.w.n : Int) * (s.w.n : Int) / 4 + 40).toNat, by have : 0 ≤ (s.w.n : Int) * (s.w.n : Int) := Int.mul_nonneg (by omega) (by omega); omega⟩
  have hlt : left s d k xs < (n0 : Int) := by rw [hn0, show (s.w.n : Int) = 16 * (s.p.n : Int) by omega]; exact hls
  have HL := Lib.hid hlt
  have hsq : (s.w.n : Int) * (s.w.n : Int) ≤ 130 * 130 := Int.mul_le_mul (by omega) (by omega) (by omega) (by omega)
  have hsq0 : 0 ≤ (s.w.n : Int) * (s.w.n : Int) := Int.mul_nonneg (by omega) (by omega)
  have w1 : IntKind.i64.wrap ((s.w.n : Int) * (s.w.n : Int)) = (s.w.n : Int) * (s.w.n : Int) := IntWalk.i64_in _ (by omega)
  have w2 : Int.tdiv ((s.w.n : Int) * (s.w.n : Int)) 4 = (s.w.n : Int) * (s.w.n : Int) / 4 := Int.tdiv_eq_ediv_of_nonneg hsq0
  have w3' : IntKind.i64.wrap ((s.w.n : Int) * (s.w.n : Int) / 4) = (s.w.n : Int) * (s.w.n : Int) / 4 := IntWalk.i64_in _ (by omega)
  have w4' : IntKind.i64.wrap ((s.w.n : Int) * (s.w.n : Int) / 4 + 40) = (n0 : Int) := by rw [← hn0]; exact IntWalk.i64_in _ (by omega)
  have N9 : Hid (n0 ≤ 5000) := Lib.hid (by omega)
  have HH : Hid (Hold w (⟨s, k, d, xs⟩ : Q2)) := Lib.hid ⟨hp, hk⟩
  clear hin hx hwn hlen h5 hm hkn hle hwk hpa hpf hps hp9 hx4 hw16 hls hn0 hlt hsq hsq0
  have HZ := Lib.hid hz
  have CF := Lib.hid (fun W => Tr.few_any s k W)
  rw [hf] at CF
  go_enter Tryz.func5, Tryz.ntmps5
  go_upto_region 1 with fail
  obtain ⟨W1, hW1⟩ : ∃ W1, W1 = (w.alloc (.cells #[.slice s.w.a s.w.n s.w.c, .slice s.p.a s.p.n s.p.c, .slice (s.u 0).a (s.u 0).n (s.u 0).c, .slice (s.u 1).a (s.u 1).n (s.u 1).c, .slice (s.u 2).a (s.u 2).n (s.u 2).c, .slice s.c.a s.c.n s.c.c] 28)).alloc (.cells #[.int .i64 k.ph, .int .i64 k.ep, .bool k.mj, .slice k.wk.a k.wk.n k.wk.c, .bool k.ov, .int .i64 k.pa, .int .i64 k.pf, .int .i64 k.ps, .int .i64 k.pc, .bool k.me] 30) := ⟨_, rfl⟩
  have L1 := Lib.hid (((lq_none w).two (s := s) (k := k) hW1).held (n := (⟨s, k, d, xs⟩ : Q2)) ⟨hp.next (by rw [hW1]; exact ((Below.refl _ _).alloc (Nat.le_refl _) _).alloc (by simp) _), hk.next (by rw [hW1]; exact ((Below.refl _ _).alloc (Nat.le_refl _) _).alloc (by simp) _)⟩)
  rw [← hW1]
  clear hW1 hz hp hv hk hf
  go_upto_region 2 with ((go_at_call 22); (with_reducible refine (Tr.awake_any _ (L1.out.over HZ.out)).mono ?_); rintro e9 w2 ⟨rfl, hb9⟩; have L2 := Lib.hid (L1.out.next hb9); clear hb9 L1)
  go_upto_region 3 with (first
    | (refine w_load (ldHb (L2.out.bx (w.heap.size) (hv s) (by simp))) rfl rfl rfl rfl ?_)
    | (refine w_load (ldKb (L2.out.bx (w.heap.size + 1) (kv k) (by simp))) rfl rfl rfl rfl ?_)
    | ((go_at_call 23); (with_reducible refine (CF.out _).mono ?_); rintro e9 w3 ⟨rfl, hb9⟩; have L3 := Lib.hid (L2.out.next hb9); clear hb9 L2))
  have q0 := (L3.out.bx (w.heap.size + 1) (kv k) (by simp)).cel 0 (.int .i64 k.ph) rfl
  go_upto_region 5 with (first
    | (refine w_loadg (ldHb (L3.out.bx (w.heap.size) (hv s) (by simp))) rfl (by kernel_rfl) rfl rfl ?_)
    | fail)
  refine (CM.out _ (L3.out.at _ (by simp)) (L3.out.over HZ.out)).mono ?_
  rintro e9 vL4 ⟨rfl, hb9⟩
  have L4 := Lib.hid (L3.out.next hb9)
  clear hb9 L3
  clear q0
  go_upto_region 5 with (first
    | (refine w_loadg (ldHb (L4.out.bx (w.heap.size) (hv s) (by simp))) rfl (by kernel_rfl) rfl rfl ?_)
    | (refine w_loadg (ldKb (L4.out.bx (w.heap.size + 1) (kv k) (by simp))) rfl (by kernel_rfl) rfl rfl ?_)
    | fail)
  refine (CK.out _ (L4.out.at _ (by simp)) (L4.out.over HZ.out)).mono ?_
  rintro e9 vL5 ⟨rfl, hb9⟩
  have L5 := Lib.hid (L4.out.next hb9)
  clear hb9 L4
  go_upto_region 5 with (first
    | (refine w_loadg (ldHb (L5.out.bx (w.heap.size) (hv s) (by simp))) rfl (by kernel_rfl) rfl rfl ?_)
    | (refine w_loadg (ldKb (L5.out.bx (w.heap.size + 1) (kv k) (by simp))) rfl (by kernel_rfl) rfl rfl ?_)
    | fail)
  refine (CL.out _ (L5.out.at _ (by simp)) (L5.out.over HZ.out)).mono ?_
  rintro e9 vL6 ⟨rfl, hb9⟩
  have L6 := Lib.hid (L5.out.next hb9)
  clear hb9 L5
  have q3 := (L6.out.bx (w.heap.size + 1) (kv k) (by simp)).cel 3 (.slice k.wk.a k.wk.n k.wk.c) rfl
  have q5 := (L6.out.bx (w.heap.size + 1) (kv k) (by simp)).cel 5 (.int .i64 k.pa) rfl
  have q6 := (L6.out.bx (w.heap.size + 1) (kv k) (by simp)).cel 6 (.int .i64 k.pf) rfl
  have q7 := (L6.out.bx (w.heap.size + 1) (kv k) (by simp)).cel 7 (.int .i64 k.ps) rfl
  go_upto_region 5 with fail
  clear q3 q5 q6 q7 a1 a2 a3 b1 b2 c1 c2 c3 d1 d2 d3 e1 e2 e3
  have r0 := (L6.out.bx (w.heap.size) (hv s) (by simp)).cel 0 (.slice s.w.a s.w.n s.w.c) rfl
  go_upto_region 7 with fail
  clear r0 w1 w2 w3' w4'
  have SA : Hid (Wn 2 w _ (p4 w.heap.size (w.heap.size + 1) (w.heap.size + 2) (w.heap.size + 3)) (c4 (hv s) (kv k) [] []) [(⟨s, k, d, xs⟩ : Q2)]) := Lib.hid (Lq.wn2 (n := (⟨s, k, d, xs⟩ : Q2)) L6.out (by simp) (by simp) HH.out)
  clear L6
  go_loopw [8] (fun i wr => ∃ (j : Nat) (n : Q2), j ≤ n0 ∧ i = .int .i64 j ∧ Hid (Wn 2 w wr (p4 w.heap.size (w.heap.size + 1) (w.heap.size + 2) (w.heap.size + 3)) (c4 (hv n.s) (kv n.k) [] []) [n] ∧ EndJ s (left s d k xs) j n)) (fun i _ => n0 - (intOf i).toNat)
  case atStart => exact ⟨0, (⟨s, k, d, xs⟩ : Q2), by omega, rfl, Lib.hid ⟨SA.out, HS.out⟩⟩
  case round =>
    obtain ⟨j, n, hj, rfl, HR⟩ := hrel
    have R := Lib.hid HR.out.1
    have A := Lib.hid HR.out.2
    clear HR SA HS
    have hx9 : n.xs.length ≤ 999000 := by have := A.out.x; have := N9.out; omega
    have q0 := (show Box _ (w.heap.size + 1) (kv n.k) from R.out.box 1 (by decide)).cel 0 (.int .i64 n.k.ph) rfl
    by_cases h5 : n.k.ph = 5
    · have hlt := A.out.lt h5 HL.out
      have d1 : decide ((j : Int) < (n0 : Int)) = true := decide_eq_true hlt
      have c1 : decide (n.k.ph = 5) = true := decide_eq_true h5
      have c2 : (n.k.ph == 5) = true := c1
      have CI := Lib.hid (fun W (hW : Hold W n) (hz : Cl.Sz W) => step_any n W ⟨hW, hz, A.out.fine, hx9⟩)
      have wi : IntKind.i64.wrap ((j : Int) + 1) = (j : Int) + 1 := IntWalk.i64_in _ (by have := N9.out; omega)
      have H5 := Lib.hid h5
      have HJ : Hid (j < n0) := Lib.hid (by omega)
      clear h5 hlt
      go_upto_region 9 with fail
      clear q0 c1 c2
      go_wp2_with (first
        | (refine w_load (ldHb (show Box _ (w.heap.size) (hv n.s) from R.out.box 0 (by decide))) rfl rfl rfl rfl ?_)
        | (refine w_load (ldKb (show Box _ (w.heap.size + 1) (kv n.k) from R.out.box 1 (by decide))) rfl rfl rfl rfl ?_)
        | ((go_at_call 27); (with_reducible refine (CI.out _ (R.out.at n (List.mem_singleton.2 rfl)) (R.out.over HZ.out)).mono ?_); rintro e9 w9 ⟨y, rfl, hl9, hd9, hx9', hk9, hh9, hn9, hb9⟩; have B := Lib.hid (A.out.next H5.out hl9 hd9 hx9' hk9); have T := Lib.hid (R.out.swap hh9 (fun i hi => hn9.off (R.out.lt hi)) hb9); clear hl9 hd9 hx9' hk9 hh9 hn9 hb9)
        | (refine w_putH T.out 0 (by decide) y.s (c' := c4 (hv y.s) (kv n.k) [] []) rfl (all2 ⟨rfl, rfl⟩) rfl rfl rfl rfl rfl ?_; intro WB h6; have T2 := Lib.hid h6; clear h6)
        | (refine w_putK T2.out 1 (by decide) y.k (c' := c4 (hv y.s) (kv y.k) [] []) rfl (all2 ⟨rfl, rfl⟩) rfl rfl rfl rfl rfl ?_; intro WC h7; have T3 := Lib.hid h7; clear h7))
      go_roundw
      case rel => exact ⟨j + 1, y, by have := HJ.out; omega, by have := N9.out; have := HJ.out; go_num, Lib.hid ⟨T3.out, B.out⟩⟩
      case measure => have := HJ.out; simp [intOf]; omega
    · obtain ⟨h6, ho, hl, hm⟩ := A.out.out h5
      have c1 : decide (n.k.ph = 5) = false := decide_eq_false h5
      have c2 : (n.k.ph == 5) = false := c1
      have e1 : decide (n.k.ph = 6) = true := decide_eq_true h6
      have e2 : (n.k.ph == 6) = true := e1
      have CL2 := Lib.hid (fun W (hW : Hold W n) (hz : Cl.Sz W) => led_any n W ⟨hW, hz, A.out.fine, hx9⟩)
      rw [hl] at CL2
      have CO := Lib.hid (fun W (hW : Hold W n) (hz : Cl.Sz W) => over_any n W hW hz A.out.fine hx9)
      rw [ho] at CO
      have CM2 := Lib.hid (fun W (hW : Hold W n) (hz : Cl.Sz W) => pmay0_any n.s n.d W hW.h hz A.out.fine)
      rw [hm] at CM2
      clear h5 h6 ho hl hm
      by_cases hjn : j < n0 <;>
      (go_upto_region 10 with fail
       go_wp2_with (first
         | (refine w_loadg (ldHb (show Box _ (w.heap.size) (hv n.s) from R.out.box 0 (by decide))) rfl (by kernel_rfl) rfl rfl ?_)
         | (refine w_loadg (ldKb (show Box _ (w.heap.size + 1) (kv n.k) from R.out.box 1 (by decide))) rfl (by kernel_rfl) rfl rfl ?_))
       refine (CL2.out _ (R.out.at n (List.mem_singleton.2 rfl)) (R.out.over HZ.out)).mono ?_
       rintro e9 w9 ⟨rfl, hb9⟩
       have T := Lib.hid (R.out.next hb9)
       clear hb9
       go_wp2_with (first
         | (refine w_loadg (ldHb (show Box _ (w.heap.size) (hv n.s) from T.out.box 0 (by decide))) rfl (by kernel_rfl) rfl rfl ?_)
         | (refine w_loadg (ldKb (show Box _ (w.heap.size + 1) (kv n.k) from T.out.box 1 (by decide))) rfl (by kernel_rfl) rfl rfl ?_))
       refine (CO.out _ (T.out.at n (List.mem_singleton.2 rfl)) (T.out.over HZ.out)).mono ?_
       rintro e9 w10 ⟨rfl, hb9⟩
       have T2 := Lib.hid (T.out.next hb9)
       clear hb9
       go_wp2_with (first
         | (refine w_loadg (ldHb (show Box _ (w.heap.size) (hv n.s) from T2.out.box 0 (by decide))) rfl (by kernel_rfl) rfl rfl ?_)
         | fail)
       refine (CM2.out _ (T2.out.at n (List.mem_singleton.2 rfl)) (T2.out.over HZ.out)).mono ?_
       rintro e9 w11 ⟨rfl, hb9⟩
       have T3 := Lib.hid (T2.out.next hb9)
       clear hb9
       go_wp2
       go_ret
       exact ⟨rfl, T3.out.bel⟩)
theorem walk (s : Hs) (d : Hd_) (k : Sh.Ks) (xs : List Int) (w : World) (hz : Cl.Sz w) (hp : Hp w w.heap.size s d) (hv : Fit64 d.ws) (_ : s.p.n ≤ s.p.c) (hk : Sh.WRow w w.heap.size k xs) (_ : k.wk.n ≤ k.wk.c) (_ : k.wk.c ≤ maxLen) (_ : (Lit.int .i64 k.ep).wf = true) : Calls Tryz.prog 5 #[(.agg #[.slice s.w.a s.w.n s.w.c, .slice s.p.a s.p.n s.p.c, .slice (s.u 0).a (s.u 0).n (s.u 0).c, .slice (s.u 1).a (s.u 1).n (s.u 1).c, .slice (s.u 2).a (s.u 2).n (s.u 2).c, .slice s.c.a s.c.n s.c.c]), (.agg #[.int .i64 k.ph, .int .i64 k.ep, .bool k.mj, .slice k.wk.a k.wk.n k.wk.c, .bool k.ov, .int .i64 k.pa, .int .i64 k.pf, .int .i64 k.ps, .int .i64 k.pc, .bool k.me])] w fun e w' => e = .returned (.bool true) ∧ Below w.heap.size w w' := by
  cases hf : Sh.fewK s k
  · exact walk_few s d k xs w hf hz hp hv hk
  by_cases h5 : k.ph = 5
  case neg => exact walk_ph s d k xs w hf h5 hz hp hv hk
  cases hm : mayB0 s d
  · exact walk_may s d k xs w hf h5 hm hz hp hv hk
  rcases known_two k xs (Sh.greyL s d k.mj k.ep) with hkn | hkn
  case inr => exact walk_known s d k xs w hf h5 hm hkn hz hp hv hk
  rcases led_two s d k.mj k.ep with hle | hle
  case inr => exact walk_led s d k xs w hf h5 hm hkn hle hz hp hv hk
  by_cases hwk : k.wk.n ≤ 4
  case neg => exact walk_work s d k xs w hf h5 hm hkn hle (by omega) hz hp hv hk
  by_cases hpa : k.pa = 0
  case neg => exact walk_pa s d k xs w hf h5 hm hkn hle hwk hpa hz hp hv hk
  by_cases hpf : k.pf = 0
  case neg => exact walk_pf s d k xs w hf h5 hm hkn hle hwk hpa hpf hz hp hv hk
  by_cases hps : k.ps = 0
  case neg => exact walk_ps s d k xs w hf h5 hm hkn hle hwk hpa hpf hps hz hp hv hk
  exact walk_steps s d k xs w hf h5 hm hkn hle hwk hpa hpf hps hz hp hv hk
-- the frame (hp16frame.py)
set_option maxRecDepth 100000 in
theorem lifted (os : Os) (started : os.Started) (H : Type) (enc : TypeId × Value → H) :
    ReturnsInHanded {} Tryz.checked os 5 .any (fun w args => (Rows.traceEndsSpec.pre enc Tryz.prog Tryz.f5 [] false w args ∧ laidMetH Tryz.prog laidSizes w) ∧ sizedMet enc Tryz.prog Tryz.f5 (OpenSpec.ofChange Rows.traceEndsSpec) false w args)
      (Rows.traceEndsSpec.post enc Tryz.prog Tryz.f5 false true false false) := by
  refine returnsInHanded_of_change_and (C := Tryz.checked) (X := fun w _ => laidMetH Tryz.prog laidSizes w) (fun _ _ _ hh h => h.of_heap hh) own started (by kernel_rfl) Tryz.func5
    (ChangeSpec.witness_shaped (enc := enc) (C := Tryz.checked) (os := os) (X := fun w _ => laidMetH Tryz.prog laidSizes w) false (World.doorLaid Tryz.prog 400 os) #[.agg #[.slice none 0 0, .slice none 0 0, .slice none 0 0, .slice none 0 0, .slice none 0 0, .slice none 0 0], .agg #[.int .i64 0, .int .i64 0, .bool false, .slice none 0 0, .bool false, .int .i64 0, .int .i64 0, .int .i64 0, .int .i64 0, .bool false]] 8 rfl (World.shaped_of_RefB (by kernel_rfl) (by kernel_rfl)) (by kernel_rfl) (by kernel_rfl) (by kernel_rfl) (door_met os _)) ?_
  intro W base args ds gs before hval0 hW _ _ hL _
  have hval : ∀ (j : Nat) t v, Tryz.f5.params[j]? = some t → args[j]? = some v → Value.okWide Tryz.prog W .any base t v := hval0
  have hW' := hW
  obtain ⟨p, q, hA0, hV, rfl, hfz, hnd⟩ := hW
  have hA : DataW.TrodAll enc Tryz.prog W 0 (fun _ => true) true Tryz.f5.params.toList args.toList ds p := hA0
  rw [Tryz.params5] at hA hval
  obtain ⟨v0, vs0, d0, ds0, p0, q0, hargs, rfl, rfl, h0, r0⟩ := trodAll_cons hA
  obtain ⟨v1, vs1, d1, ds1, p1, q1, rfl, rfl, rfl, h1, r1⟩ := trodAll_cons r0
  obtain ⟨rfl, rfl, rfl⟩ := trodAll_nil r1
  obtain rfl : args = #[v0, v1] := by cases args; simp_all
  obtain ⟨rfl, rfl⟩ := trodVars_none hV
  have k0 := h0
  have lt0 : ∀ x ∈ p0, x.block < W.heap.size := by obtain ⟨m, hm⟩ := k0; exact DataW.trod_lt m _ _ _ hm
  obtain ⟨s0, z0, rfl, w0, f0, b0⟩ := heap_of8 (hval 0 28 v0 rfl rfl) h0
  have k1 := h1
  have lt1 : ∀ x ∈ p1, x.block < W.heap.size := by obtain ⟨m, hm⟩ := k1; exact DataW.trod_lt m _ _ _ hm
  obtain ⟨k1', z1, rfl, w1, m1, x1, f1⟩ := Sh.col_of (hval 1 30 v1 rfl rfl) h1
  clear hA0 hval0
  refine (walk s0 z0 k1' z1 W (of_laid hL) w0 f0 b0 w1 m1 x1 f1).mono fun e W' ⟨he, bel⟩ => ?_
  subst he
  exact ⟨_, rfl, _, _, _, [], _, [], hW', trodAll_mk1 (shut_bool Tryz.underlying4 _), (trodAll_cons_mk (Below.trod laidOut (by kernel_rfl) (of_decide_eq_true (by kernel_rfl)) k0 bel lt0) (trodAll_cons_mk (Below.trod laidOut (by kernel_rfl) (of_decide_eq_true (by kernel_rfl)) k1 bel lt1) trodAll_mk0)), rfl, bel.frame _, fun h => by cases h⟩

theorem over : Rows.TraceEndsSaid :=
  OpenClaim.holds_of_wide 5 Tryz.f5 rfl rfl rfl rfl rfl rfl rfl ⟨rfl, rfl, rfl, rfl, rfl⟩ rfl rfl rfl rfl rfl (by kernel_rfl) Tryz.func5 (by kernel_rfl)
    (of_decide_eq_true (by kernel_rfl)) (by unfold Func.isWrapper; first | (rw [if_pos (by decide +kernel)]; kernel_rfl) | (rw [if_neg (by decide +kernel)]; exact ⟨rfl, rfl⟩))
    (fun os started H enc _ => lifted os started H enc)

/-- The statement: the card. -/
theorem proved : Rows.TraceEndsCardSaid :=
  Claim7.holds_tied_plain_at .later [] [.data] true Rows.traceEndsCard.stood.harness false
    over (fun _ h => by cases h) (by kernel_rfl) (fun _ h => by cases h) traceEnds_row_tie rfl ⟨rfl, rfl⟩ (by kernel_rfl) rfl
    (fun f fn hf hfn => by
      obtain rfl : f = 5 := Option.some.inj ((show Tryz.prog.funcNamed "ragpicker/ragpickerlaw16.TraceEnds" = some 5 by kernel_rfl).symm.trans hf) |>.symm
      obtain rfl : fn = Tryz.f5 := (Option.some.inj (Tryz.func5.symm.trans hfn)).symm
      exact ⟨by kernel_rfl, fun j t ht => by
        rw [Tryz.params5] at ht
        have hm : t ∈ [28, 30] := by simpa using Array.mem_of_getElem? ht
        have hall : ([28, 30].all fun u => !Tryz.prog.wantsStandIn u) = true := by kernel_rfl
        exact (show Tryz.prog.wantsStandIn t = false by simpa using List.all_eq_true.1 hall t hm)⟩)
    (by kernel_rfl)
#print axioms proved
end Go.Proofs.YtccjelpfmkbmiaaGreatDoor.TraceEnds
