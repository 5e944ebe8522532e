/-
  TraceReach: where all that is grey is known of, just what the grey ones led to is black when Sweep is reached; what nothing grey led to is as white as it was: for every heap of at most 9 pages and 130 words, a work list of at most 4, in a major cycle; the table of sizes is tied to the program's text by the card.
-/
import Derived.Test.YtccjelpfmkbmiaaGreatDoorXTrAwake
import Derived.Test.YtccjelpfmkbmiaaGreatDoorHpXN
import Derived.Test.YtccjelpfmkbmiaaGreatDoorHpXM
import Derived.Deep.LoopGhost
import Derived.Deep.Cut
import Derived.Deep.CutRange
namespace Go.Proofs.YtccjelpfmkbmiaaGreatDoor.TraceReach
open Go.Proofs.YtccjelpfmkbmiaaGreatDoor Go.Proofs.YtccjelpfmkbmiaaGreatDoor.Rt Go.Proofs.YtccjelpfmkbmiaaGreatDoor.Tr
open Go.ChangeShapes Go.WideShapes Go.ChangeAt Go.RowKit Go.Deep
open Go.Proofs.YtccjelpfmkbmiaaGreatDoor.Mu (hv kv w_load w_store w_loadg ldHb ldKb stHb stKb st_int ld_int noHs0 noK0)
open Go.Proofs.YtccjelpfmkbmiaaGreatDoor.Ha (region_planK pl_full putD w_skip)
set_option maxRecDepth 100000

set_option maxHeartbeats 1000000 in
theorem walk_few (s : Hs) (d : Hd_) (k : Sh.Ks) (xs : List Int) (w : World) (hf : Sh.fewK s k = false) (hz : Cl.Sz w) (hp : Hp w w.heap.size s d) (_ : ∀ i, -9223372036854775808 ≤ d.ws.getD i 0 ∧ d.ws.getD i 0 ≤ 9223372036854775807) (hk : Sh.WRow w w.heap.size k xs) : Calls Tryz.prog 7 #[(.agg #[.slice s.w.a s.w.n s.w.c, .slice s.p.a s.p.n s.p.c, .slice (s.u 0).a (s.u 0).n (s.u 0).c, .slice (s.u 1).a (s.u 1).n (s.u 1).c, .slice (s.u 2).a (s.u 2).n (s.u 2).c, .slice s.c.a s.c.n s.c.c]), (.agg #[.int .i64 k.ph, .int .i64 k.ep, .bool k.mj, .slice k.wk.a k.wk.n k.wk.c, .bool k.ov, .int .i64 k.pa, .int .i64 k.pf, .int .i64 k.ps, .int .i64 k.pc, .bool k.me])] w fun e w' => e = .returned (.bool true) ∧ Below w.heap.size w w' := by
  have HZ := Lib.hid hz
  have CF := Lib.hid (fun W => Tr.few_any s k W)
  rw [hf] at CF
  go_enter Tryz.func7, Tryz.ntmps7
  go_upto_region 1 with fail
  obtain ⟨W1, hW1⟩ : ∃ W1, W1 = (w.alloc (.cells #[.slice s.w.a s.w.n s.w.c, .slice s.p.a s.p.n s.p.c, .slice (s.u 0).a (s.u 0).n (s.u 0).c, .slice (s.u 1).a (s.u 1).n (s.u 1).c, .slice (s.u 2).a (s.u 2).n (s.u 2).c, .slice s.c.a s.c.n s.c.c] 28)).alloc (.cells #[.int .i64 k.ph, .int .i64 k.ep, .bool k.mj, .slice k.wk.a k.wk.n k.wk.c, .bool k.ov, .int .i64 k.pa, .int .i64 k.pf, .int .i64 k.ps, .int .i64 k.pc, .bool k.me] 30) := ⟨_, rfl⟩
  have L1 := Lib.hid (((lq_none w).two (s := s) (k := k) hW1).held (n := (⟨s, k, d, xs⟩ : Q2)) ⟨hp.next (by rw [hW1]; exact ((Below.refl _ _).alloc (Nat.le_refl _) _).alloc (by simp) _), hk.next (by rw [hW1]; exact ((Below.refl _ _).alloc (Nat.le_refl _) _).alloc (by simp) _)⟩)
  rw [← hW1]
  clear hW1 hz hp hk hf
  go_upto_region 2 with ((go_at_call 22); (with_reducible refine (Tr.awake_any _ (L1.out.over HZ.out)).mono ?_); rintro e9 w2 ⟨rfl, hb9⟩; have L2 := Lib.hid (L1.out.next hb9); clear hb9 L1)
  go_upto_region 3 with (first
    | (refine w_load (ldHb (L2.out.bx (w.heap.size) (hv s) (by simp))) rfl rfl rfl rfl ?_)
    | (refine w_load (ldKb (L2.out.bx (w.heap.size + 1) (kv k) (by simp))) rfl rfl rfl rfl ?_)
    | ((go_at_call 23); (with_reducible refine (CF.out _).mono ?_); rintro e9 w3 ⟨rfl, hb9⟩; have L3 := Lib.hid (L2.out.next hb9); clear hb9 L2))
  go_wp2
  go_ret
  exact ⟨rfl, L3.out.bel⟩
theorem known_call (n : Q2) (w : World) (hn : In w n) : Calls Tryz.prog 25 #[(.agg #[.slice n.s.w.a n.s.w.n n.s.w.c, .slice n.s.p.a n.s.p.n n.s.p.c, .slice (n.s.u 0).a (n.s.u 0).n (n.s.u 0).c, .slice (n.s.u 1).a (n.s.u 1).n (n.s.u 1).c, .slice (n.s.u 2).a (n.s.u 2).n (n.s.u 2).c, .slice n.s.c.a n.s.c.n n.s.c.c]), (.agg #[.int .i64 n.k.ph, .int .i64 n.k.ep, .bool n.k.mj, .slice n.k.wk.a n.k.wk.n n.k.wk.c, .bool n.k.ov, .int .i64 n.k.pa, .int .i64 n.k.pf, .int .i64 n.k.ps, .int .i64 n.k.pc, .bool n.k.me])] w fun e w' => e = .returned (.int .i64 (knownI n.k n.xs (Sh.greyL n.s n.d n.k.mj n.k.ep))) ∧ Below w.heap.size w w' :=
  known_core n w _ (Nat.le_trans (Sh.grey_len _ _ _ _) (Nat.le_trans (used_len n.s n.d) (allS_len n.d.f n.s.p.n))) hn.hold hn.x fun W h => rgrey_any n W h hn.fine
theorem known_two (k : Sh.Ks) (xs G : List Int) : knownI k xs G = 0 ∨ knownI k xs G = 1 := by
  unfold knownI
  split <;> simp
theorem known_is {s : Hs} {d : Hd_} {k : Sh.Ks} {xs : List Int} (h : knownI k xs (Sh.greyL s d k.mj k.ep) = 0) : Known s d k xs := fun y hy => by
  unfold knownI at h
  split at h
  · next e => exact List.all_eq_true.1 e y (Sh.grey_mem.2 hy)
  · cases h
set_option maxHeartbeats 8000000 in
theorem walk_ph (s : Hs) (d : Hd_) (k : Sh.Ks) (xs : List Int) (w : World) (hf : Sh.fewK s k = true) (h5 : ¬ k.ph = 5) (hz : Cl.Sz w) (hp : Hp w w.heap.size s d) (hv : ∀ i, -9223372036854775808 ≤ d.ws.getD i 0 ∧ d.ws.getD i 0 ≤ 9223372036854775807) (hk : Sh.WRow w w.heap.size k xs) : Calls Tryz.prog 7 #[(.agg #[.slice s.w.a s.w.n s.w.c, .slice s.p.a s.p.n s.p.c, .slice (s.u 0).a (s.u 0).n (s.u 0).c, .slice (s.u 1).a (s.u 1).n (s.u 1).c, .slice (s.u 2).a (s.u 2).n (s.u 2).c, .slice s.c.a s.c.n s.c.c]), (.agg #[.int .i64 k.ph, .int .i64 k.ep, .bool k.mj, .slice k.wk.a k.wk.n k.wk.c, .bool k.ov, .int .i64 k.pa, .int .i64 k.pf, .int .i64 k.ps, .int .i64 k.pc, .bool k.me])] w fun e w' => e = .returned (.bool true) ∧ Below w.heap.size w w' := by
  obtain ⟨hin, hx, hwn, hlen⟩ := few_in hf hp hv hk hz
  have a1 : decide (k.ph = 5) = false := decide_eq_false h5
  have a2 : (k.ph == 5) = false := a1
  have a3 : (k.ph != 5) = true := by rw [bne, a2]; rfl
  clear hin hx hwn hlen h5
  have HZ := Lib.hid hz
  have CF := Lib.hid (fun W => Tr.few_any s k W)
  rw [hf] at CF
  go_enter Tryz.func7, Tryz.ntmps7
  go_upto_region 1 with fail
  obtain ⟨W1, hW1⟩ : ∃ W1, W1 = (w.alloc (.cells #[.slice s.w.a s.w.n s.w.c, .slice s.p.a s.p.n s.p.c, .slice (s.u 0).a (s.u 0).n (s.u 0).c, .slice (s.u 1).a (s.u 1).n (s.u 1).c, .slice (s.u 2).a (s.u 2).n (s.u 2).c, .slice s.c.a s.c.n s.c.c] 28)).alloc (.cells #[.int .i64 k.ph, .int .i64 k.ep, .bool k.mj, .slice k.wk.a k.wk.n k.wk.c, .bool k.ov, .int .i64 k.pa, .int .i64 k.pf, .int .i64 k.ps, .int .i64 k.pc, .bool k.me] 30) := ⟨_, rfl⟩
  have L1 := Lib.hid (((lq_none w).two (s := s) (k := k) hW1).held (n := (⟨s, k, d, xs⟩ : Q2)) ⟨hp.next (by rw [hW1]; exact ((Below.refl _ _).alloc (Nat.le_refl _) _).alloc (by simp) _), hk.next (by rw [hW1]; exact ((Below.refl _ _).alloc (Nat.le_refl _) _).alloc (by simp) _)⟩)
  rw [← hW1]
  clear hW1 hz hp hv hk hf
  go_upto_region 2 with ((go_at_call 22); (with_reducible refine (Tr.awake_any _ (L1.out.over HZ.out)).mono ?_); rintro e9 w2 ⟨rfl, hb9⟩; have L2 := Lib.hid (L1.out.next hb9); clear hb9 L1)
  go_upto_region 3 with (first
    | (refine w_load (ldHb (L2.out.bx (w.heap.size) (hv s) (by simp))) rfl rfl rfl rfl ?_)
    | (refine w_load (ldKb (L2.out.bx (w.heap.size + 1) (kv k) (by simp))) rfl rfl rfl rfl ?_)
    | ((go_at_call 23); (with_reducible refine (CF.out _).mono ?_); rintro e9 w3 ⟨rfl, hb9⟩; have L3 := Lib.hid (L2.out.next hb9); clear hb9 L2))
  have q0 := (L3.out.bx (w.heap.size + 1) (kv k) (by simp)).cel 0 (.int .i64 k.ph) rfl
  go_wp2
  go_ret
  exact ⟨rfl, L3.out.bel⟩
set_option maxHeartbeats 8000000 in
theorem walk_mj (s : Hs) (d : Hd_) (k : Sh.Ks) (xs : List Int) (w : World) (hf : Sh.fewK s k = true) (h5 : k.ph = 5) (hmj : k.mj = false) (hz : Cl.Sz w) (hp : Hp w w.heap.size s d) (hv : ∀ i, -9223372036854775808 ≤ d.ws.getD i 0 ∧ d.ws.getD i 0 ≤ 9223372036854775807) (hk : Sh.WRow w w.heap.size k xs) : Calls Tryz.prog 7 #[(.agg #[.slice s.w.a s.w.n s.w.c, .slice s.p.a s.p.n s.p.c, .slice (s.u 0).a (s.u 0).n (s.u 0).c, .slice (s.u 1).a (s.u 1).n (s.u 1).c, .slice (s.u 2).a (s.u 2).n (s.u 2).c, .slice s.c.a s.c.n s.c.c]), (.agg #[.int .i64 k.ph, .int .i64 k.ep, .bool k.mj, .slice k.wk.a k.wk.n k.wk.c, .bool k.ov, .int .i64 k.pa, .int .i64 k.pf, .int .i64 k.ps, .int .i64 k.pc, .bool k.me])] w fun e w' => e = .returned (.bool true) ∧ Below w.heap.size w w' := by
  obtain ⟨hin, hx, hwn, hlen⟩ := few_in hf hp hv hk hz
  have HMJ := Lib.hid hmj
  have a1 : decide (k.ph = 5) = true := decide_eq_true h5
  have a2 : (k.ph == 5) = true := a1
  have a3 : (k.ph != 5) = false := by rw [bne, a2]; rfl
  clear hin hx hwn hlen h5 hmj
  have HZ := Lib.hid hz
  have CF := Lib.hid (fun W => Tr.few_any s k W)
  rw [hf] at CF
  go_enter Tryz.func7, Tryz.ntmps7
  go_upto_region 1 with fail
  obtain ⟨W1, hW1⟩ : ∃ W1, W1 = (w.alloc (.cells #[.slice s.w.a s.w.n s.w.c, .slice s.p.a s.p.n s.p.c, .slice (s.u 0).a (s.u 0).n (s.u 0).c, .slice (s.u 1).a (s.u 1).n (s.u 1).c, .slice (s.u 2).a (s.u 2).n (s.u 2).c, .slice s.c.a s.c.n s.c.c] 28)).alloc (.cells #[.int .i64 k.ph, .int .i64 k.ep, .bool k.mj, .slice k.wk.a k.wk.n k.wk.c, .bool k.ov, .int .i64 k.pa, .int .i64 k.pf, .int .i64 k.ps, .int .i64 k.pc, .bool k.me] 30) := ⟨_, rfl⟩
  have L1 := Lib.hid (((lq_none w).two (s := s) (k := k) hW1).held (n := (⟨s, k, d, xs⟩ : Q2)) ⟨hp.next (by rw [hW1]; exact ((Below.refl _ _).alloc (Nat.le_refl _) _).alloc (by simp) _), hk.next (by rw [hW1]; exact ((Below.refl _ _).alloc (Nat.le_refl _) _).alloc (by simp) _)⟩)
  rw [← hW1]
  clear hW1 hz hp hv hk hf
  go_upto_region 2 with ((go_at_call 22); (with_reducible refine (Tr.awake_any _ (L1.out.over HZ.out)).mono ?_); rintro e9 w2 ⟨rfl, hb9⟩; have L2 := Lib.hid (L1.out.next hb9); clear hb9 L1)
  go_upto_region 3 with (first
    | (refine w_load (ldHb (L2.out.bx (w.heap.size) (hv s) (by simp))) rfl rfl rfl rfl ?_)
    | (refine w_load (ldKb (L2.out.bx (w.heap.size + 1) (kv k) (by simp))) rfl rfl rfl rfl ?_)
    | ((go_at_call 23); (with_reducible refine (CF.out _).mono ?_); rintro e9 w3 ⟨rfl, hb9⟩; have L3 := Lib.hid (L2.out.next hb9); clear hb9 L2))
  have q0 := (L3.out.bx (w.heap.size + 1) (kv k) (by simp)).cel 0 (.int .i64 k.ph) rfl
  have qm := (L3.out.bx (w.heap.size + 1) (kv k) (by simp)).cel 2 (.bool false) (by rw [← HMJ.out]; rfl)
  go_wp2
  go_ret
  exact ⟨rfl, L3.out.bel⟩
set_option maxHeartbeats 8000000 in
theorem walk_may (s : Hs) (d : Hd_) (k : Sh.Ks) (xs : List Int) (w : World) (hf : Sh.fewK s k = true) (h5 : k.ph = 5) (hmj : k.mj = true) (hm : mayB0 s d = false) (hz : Cl.Sz w) (hp : Hp w w.heap.size s d) (hv : ∀ i, -9223372036854775808 ≤ d.ws.getD i 0 ∧ d.ws.getD i 0 ≤ 9223372036854775807) (hk : Sh.WRow w w.heap.size k xs) : Calls Tryz.prog 7 #[(.agg #[.slice s.w.a s.w.n s.w.c, .slice s.p.a s.p.n s.p.c, .slice (s.u 0).a (s.u 0).n (s.u 0).c, .slice (s.u 1).a (s.u 1).n (s.u 1).c, .slice (s.u 2).a (s.u 2).n (s.u 2).c, .slice s.c.a s.c.n s.c.c]), (.agg #[.int .i64 k.ph, .int .i64 k.ep, .bool k.mj, .slice k.wk.a k.wk.n k.wk.c, .bool k.ov, .int .i64 k.pa, .int .i64 k.pf, .int .i64 k.ps, .int .i64 k.pc, .bool k.me])] w fun e w' => e = .returned (.bool true) ∧ Below w.heap.size w w' := by
  obtain ⟨hin, hx, hwn, hlen⟩ := few_in hf hp hv hk hz
  have HMJ := Lib.hid hmj
  have CM := Lib.hid (fun W (hW : Hold W (⟨s, k, d, xs⟩ : Q2)) (hz : Cl.Sz W) => pmay0_any s d W hW.h hz hin.fine)
  rw [hm] at CM
  have a1 : decide (k.ph = 5) = true := decide_eq_true h5
  have a2 : (k.ph == 5) = true := a1
  have a3 : (k.ph != 5) = false := by rw [bne, a2]; rfl
  clear hin hx hwn hlen h5 hmj hm
  have HZ := Lib.hid hz
  have CF := Lib.hid (fun W => Tr.few_any s k W)
  rw [hf] at CF
  go_enter Tryz.func7, Tryz.ntmps7
  go_upto_region 1 with fail
  obtain ⟨W1, hW1⟩ : ∃ W1, W1 = (w.alloc (.cells #[.slice s.w.a s.w.n s.w.c, .slice s.p.a s.p.n s.p.c, .slice (s.u 0).a (s.u 0).n (s.u 0).c, .slice (s.u 1).a (s.u 1).n (s.u 1).c, .slice (s.u 2).a (s.u 2).n (s.u 2).c, .slice s.c.a s.c.n s.c.c] 28)).alloc (.cells #[.int .i64 k.ph, .int .i64 k.ep, .bool k.mj, .slice k.wk.a k.wk.n k.wk.c, .bool k.ov, .int .i64 k.pa, .int .i64 k.pf, .int .i64 k.ps, .int .i64 k.pc, .bool k.me] 30) := ⟨_, rfl⟩
  have L1 := Lib.hid (((lq_none w).two (s := s) (k := k) hW1).held (n := (⟨s, k, d, xs⟩ : Q2)) ⟨hp.next (by rw [hW1]; exact ((Below.refl _ _).alloc (Nat.le_refl _) _).alloc (by simp) _), hk.next (by rw [hW1]; exact ((Below.refl _ _).alloc (Nat.le_refl _) _).alloc (by simp) _)⟩)
  rw [← hW1]
  clear hW1 hz hp hv hk hf
  go_upto_region 2 with ((go_at_call 22); (with_reducible refine (Tr.awake_any _ (L1.out.over HZ.out)).mono ?_); rintro e9 w2 ⟨rfl, hb9⟩; have L2 := Lib.hid (L1.out.next hb9); clear hb9 L1)
  go_upto_region 3 with (first
    | (refine w_load (ldHb (L2.out.bx (w.heap.size) (hv s) (by simp))) rfl rfl rfl rfl ?_)
    | (refine w_load (ldKb (L2.out.bx (w.heap.size + 1) (kv k) (by simp))) rfl rfl rfl rfl ?_)
    | ((go_at_call 23); (with_reducible refine (CF.out _).mono ?_); rintro e9 w3 ⟨rfl, hb9⟩; have L3 := Lib.hid (L2.out.next hb9); clear hb9 L2))
  have q0 := (L3.out.bx (w.heap.size + 1) (kv k) (by simp)).cel 0 (.int .i64 k.ph) rfl
  have qm := (L3.out.bx (w.heap.size + 1) (kv k) (by simp)).cel 2 (.bool true) (by rw [← HMJ.out]; rfl)
  go_upto_region 5 with (first
    | (refine w_loadg (ldHb (L3.out.bx (w.heap.size) (hv s) (by simp))) rfl (by kernel_rfl) rfl rfl ?_)
    | fail)
  refine (CM.out _ (L3.out.at _ (by simp)) (L3.out.over HZ.out)).mono ?_
  rintro e9 vL4 ⟨rfl, hb9⟩
  have L4 := Lib.hid (L3.out.next hb9)
  clear hb9 L3
  clear q0
  go_wp2
  go_ret
  exact ⟨rfl, L4.out.bel⟩
set_option maxHeartbeats 8000000 in
theorem walk_known (s : Hs) (d : Hd_) (k : Sh.Ks) (xs : List Int) (w : World) (hf : Sh.fewK s k = true) (h5 : k.ph = 5) (hmj : k.mj = true) (hm : mayB0 s d = true) (hkn : knownI k xs (Sh.greyL s d k.mj k.ep) = 1) (hz : Cl.Sz w) (hp : Hp w w.heap.size s d) (hv : ∀ i, -9223372036854775808 ≤ d.ws.getD i 0 ∧ d.ws.getD i 0 ≤ 9223372036854775807) (hk : Sh.WRow w w.heap.size k xs) : Calls Tryz.prog 7 #[(.agg #[.slice s.w.a s.w.n s.w.c, .slice s.p.a s.p.n s.p.c, .slice (s.u 0).a (s.u 0).n (s.u 0).c, .slice (s.u 1).a (s.u 1).n (s.u 1).c, .slice (s.u 2).a (s.u 2).n (s.u 2).c, .slice s.c.a s.c.n s.c.c]), (.agg #[.int .i64 k.ph, .int .i64 k.ep, .bool k.mj, .slice k.wk.a k.wk.n k.wk.c, .bool k.ov, .int .i64 k.pa, .int .i64 k.pf, .int .i64 k.ps, .int .i64 k.pc, .bool k.me])] w fun e w' => e = .returned (.bool true) ∧ Below w.heap.size w w' := by
  obtain ⟨hin, hx, hwn, hlen⟩ := few_in hf hp hv hk hz
  have HMJ := Lib.hid hmj
  have CM := Lib.hid (fun W (hW : Hold W (⟨s, k, d, xs⟩ : Q2)) (hz : Cl.Sz W) => pmay0_any s d W hW.h hz hin.fine)
  rw [hm] at CM
  have CK := Lib.hid (fun W (hW : Hold W (⟨s, k, d, xs⟩ : Q2)) (hz : Cl.Sz W) => known_call (⟨s, k, d, xs⟩ : Q2) W ⟨hW, hz, hin.fine, hin.x⟩)
  rw [show knownI (⟨s, k, d, xs⟩ : Q2).k (⟨s, k, d, xs⟩ : Q2).xs (Sh.greyL (⟨s, k, d, xs⟩ : Q2).s (⟨s, k, d, xs⟩ : Q2).d (⟨s, k, d, xs⟩ : Q2).k.mj (⟨s, k, d, xs⟩ : Q2).k.ep) = 1 from hkn] at CK
  have a1 : decide (k.ph = 5) = true := decide_eq_true h5
  have a2 : (k.ph == 5) = true := a1
  have a3 : (k.ph != 5) = false := by rw [bne, a2]; rfl
  clear hin hx hwn hlen h5 hmj hm hkn
  have HZ := Lib.hid hz
  have CF := Lib.hid (fun W => Tr.few_any s k W)
  rw [hf] at CF
  go_enter Tryz.func7, Tryz.ntmps7
  go_upto_region 1 with fail
  obtain ⟨W1, hW1⟩ : ∃ W1, W1 = (w.alloc (.cells #[.slice s.w.a s.w.n s.w.c, .slice s.p.a s.p.n s.p.c, .slice (s.u 0).a (s.u 0).n (s.u 0).c, .slice (s.u 1).a (s.u 1).n (s.u 1).c, .slice (s.u 2).a (s.u 2).n (s.u 2).c, .slice s.c.a s.c.n s.c.c] 28)).alloc (.cells #[.int .i64 k.ph, .int .i64 k.ep, .bool k.mj, .slice k.wk.a k.wk.n k.wk.c, .bool k.ov, .int .i64 k.pa, .int .i64 k.pf, .int .i64 k.ps, .int .i64 k.pc, .bool k.me] 30) := ⟨_, rfl⟩
  have L1 := Lib.hid (((lq_none w).two (s := s) (k := k) hW1).held (n := (⟨s, k, d, xs⟩ : Q2)) ⟨hp.next (by rw [hW1]; exact ((Below.refl _ _).alloc (Nat.le_refl _) _).alloc (by simp) _), hk.next (by rw [hW1]; exact ((Below.refl _ _).alloc (Nat.le_refl _) _).alloc (by simp) _)⟩)
  rw [← hW1]
  clear hW1 hz hp hv hk hf
  go_upto_region 2 with ((go_at_call 22); (with_reducible refine (Tr.awake_any _ (L1.out.over HZ.out)).mono ?_); rintro e9 w2 ⟨rfl, hb9⟩; have L2 := Lib.hid (L1.out.next hb9); clear hb9 L1)
  go_upto_region 3 with (first
    | (refine w_load (ldHb (L2.out.bx (w.heap.size) (hv s) (by simp))) rfl rfl rfl rfl ?_)
    | (refine w_load (ldKb (L2.out.bx (w.heap.size + 1) (kv k) (by simp))) rfl rfl rfl rfl ?_)
    | ((go_at_call 23); (with_reducible refine (CF.out _).mono ?_); rintro e9 w3 ⟨rfl, hb9⟩; have L3 := Lib.hid (L2.out.next hb9); clear hb9 L2))
  have q0 := (L3.out.bx (w.heap.size + 1) (kv k) (by simp)).cel 0 (.int .i64 k.ph) rfl
  have qm := (L3.out.bx (w.heap.size + 1) (kv k) (by simp)).cel 2 (.bool true) (by rw [← HMJ.out]; rfl)
  go_upto_region 5 with (first
    | (refine w_loadg (ldHb (L3.out.bx (w.heap.size) (hv s) (by simp))) rfl (by kernel_rfl) rfl rfl ?_)
    | fail)
  refine (CM.out _ (L3.out.at _ (by simp)) (L3.out.over HZ.out)).mono ?_
  rintro e9 vL4 ⟨rfl, hb9⟩
  have L4 := Lib.hid (L3.out.next hb9)
  clear hb9 L3
  clear q0
  go_upto_region 5 with (first
    | (refine w_loadg (ldHb (L4.out.bx (w.heap.size) (hv s) (by simp))) rfl (by kernel_rfl) rfl rfl ?_)
    | (refine w_loadg (ldKb (L4.out.bx (w.heap.size + 1) (kv k) (by simp))) rfl (by kernel_rfl) rfl rfl ?_)
    | fail)
  refine (CK.out _ (L4.out.at _ (by simp)) (L4.out.over HZ.out)).mono ?_
  rintro e9 vL6 ⟨rfl, hb9⟩
  have L6 := Lib.hid (L4.out.next hb9)
  clear hb9 L4
  go_wp2
  go_ret
  exact ⟨rfl, L6.out.bel⟩
set_option maxHeartbeats 8000000 in
theorem walk_work (s : Hs) (d : Hd_) (k : Sh.Ks) (xs : List Int) (w : World) (hf : Sh.fewK s k = true) (h5 : k.ph = 5) (hmj : k.mj = true) (hm : mayB0 s d = true) (hkn : knownI k xs (Sh.greyL s d k.mj k.ep) = 0) (hwk : 4 < k.wk.n) (hz : Cl.Sz w) (hp : Hp w w.heap.size s d) (hv : ∀ i, -9223372036854775808 ≤ d.ws.getD i 0 ∧ d.ws.getD i 0 ≤ 9223372036854775807) (hk : Sh.WRow w w.heap.size k xs) : Calls Tryz.prog 7 #[(.agg #[.slice s.w.a s.w.n s.w.c, .slice s.p.a s.p.n s.p.c, .slice (s.u 0).a (s.u 0).n (s.u 0).c, .slice (s.u 1).a (s.u 1).n (s.u 1).c, .slice (s.u 2).a (s.u 2).n (s.u 2).c, .slice s.c.a s.c.n s.c.c]), (.agg #[.int .i64 k.ph, .int .i64 k.ep, .bool k.mj, .slice k.wk.a k.wk.n k.wk.c, .bool k.ov, .int .i64 k.pa, .int .i64 k.pf, .int .i64 k.ps, .int .i64 k.pc, .bool k.me])] w fun e w' => e = .returned (.bool true) ∧ Below w.heap.size w w' := by
  obtain ⟨hin, hx, hwn, hlen⟩ := few_in hf hp hv hk hz
  have HMJ := Lib.hid hmj
  have CM := Lib.hid (fun W (hW : Hold W (⟨s, k, d, xs⟩ : Q2)) (hz : Cl.Sz W) => pmay0_any s d W hW.h hz hin.fine)
  rw [hm] at CM
  have CK := Lib.hid (fun W (hW : Hold W (⟨s, k, d, xs⟩ : Q2)) (hz : Cl.Sz W) => known_call (⟨s, k, d, xs⟩ : Q2) W ⟨hW, hz, hin.fine, hin.x⟩)
  rw [show knownI (⟨s, k, d, xs⟩ : Q2).k (⟨s, k, d, xs⟩ : Q2).xs (Sh.greyL (⟨s, k, d, xs⟩ : Q2).s (⟨s, k, d, xs⟩ : Q2).d (⟨s, k, d, xs⟩ : Q2).k.mj (⟨s, k, d, xs⟩ : Q2).k.ep) = 0 from hkn] at CK
  have a1 : decide (k.ph = 5) = true := decide_eq_true h5
  have a2 : (k.ph == 5) = true := a1
  have a3 : (k.ph != 5) = false := by rw [bne, a2]; rfl
  have b1 : decide ((k.wk.n : Int) > 4) = true := decide_eq_true (by omega)
  have b2 : decide ((4 : Int) < k.wk.n) = true := b1
  clear hin hx hwn hlen h5 hmj hm hkn hwk
  have HZ := Lib.hid hz
  have CF := Lib.hid (fun W => Tr.few_any s k W)
  rw [hf] at CF
  go_enter Tryz.func7, Tryz.ntmps7
  go_upto_region 1 with fail
  obtain ⟨W1, hW1⟩ : ∃ W1, W1 = (w.alloc (.cells #[.slice s.w.a s.w.n s.w.c, .slice s.p.a s.p.n s.p.c, .slice (s.u 0).a (s.u 0).n (s.u 0).c, .slice (s.u 1).a (s.u 1).n (s.u 1).c, .slice (s.u 2).a (s.u 2).n (s.u 2).c, .slice s.c.a s.c.n s.c.c] 28)).alloc (.cells #[.int .i64 k.ph, .int .i64 k.ep, .bool k.mj, .slice k.wk.a k.wk.n k.wk.c, .bool k.ov, .int .i64 k.pa, .int .i64 k.pf, .int .i64 k.ps, .int .i64 k.pc, .bool k.me] 30) := ⟨_, rfl⟩
  have L1 := Lib.hid (((lq_none w).two (s := s) (k := k) hW1).held (n := (⟨s, k, d, xs⟩ : Q2)) ⟨hp.next (by rw [hW1]; exact ((Below.refl _ _).alloc (Nat.le_refl _) _).alloc (by simp) _), hk.next (by rw [hW1]; exact ((Below.refl _ _).alloc (Nat.le_refl _) _).alloc (by simp) _)⟩)
  rw [← hW1]
  clear hW1 hz hp hv hk hf
  go_upto_region 2 with ((go_at_call 22); (with_reducible refine (Tr.awake_any _ (L1.out.over HZ.out)).mono ?_); rintro e9 w2 ⟨rfl, hb9⟩; have L2 := Lib.hid (L1.out.next hb9); clear hb9 L1)
  go_upto_region 3 with (first
    | (refine w_load (ldHb (L2.out.bx (w.heap.size) (hv s) (by simp))) rfl rfl rfl rfl ?_)
    | (refine w_load (ldKb (L2.out.bx (w.heap.size + 1) (kv k) (by simp))) rfl rfl rfl rfl ?_)
    | ((go_at_call 23); (with_reducible refine (CF.out _).mono ?_); rintro e9 w3 ⟨rfl, hb9⟩; have L3 := Lib.hid (L2.out.next hb9); clear hb9 L2))
  have q0 := (L3.out.bx (w.heap.size + 1) (kv k) (by simp)).cel 0 (.int .i64 k.ph) rfl
  have qm := (L3.out.bx (w.heap.size + 1) (kv k) (by simp)).cel 2 (.bool true) (by rw [← HMJ.out]; rfl)
  go_upto_region 5 with (first
    | (refine w_loadg (ldHb (L3.out.bx (w.heap.size) (hv s) (by simp))) rfl (by kernel_rfl) rfl rfl ?_)
    | fail)
  refine (CM.out _ (L3.out.at _ (by simp)) (L3.out.over HZ.out)).mono ?_
  rintro e9 vL4 ⟨rfl, hb9⟩
  have L4 := Lib.hid (L3.out.next hb9)
  clear hb9 L3
  clear q0
  go_upto_region 5 with (first
    | (refine w_loadg (ldHb (L4.out.bx (w.heap.size) (hv s) (by simp))) rfl (by kernel_rfl) rfl rfl ?_)
    | (refine w_loadg (ldKb (L4.out.bx (w.heap.size + 1) (kv k) (by simp))) rfl (by kernel_rfl) rfl rfl ?_)
    | fail)
  refine (CK.out _ (L4.out.at _ (by simp)) (L4.out.over HZ.out)).mono ?_
  rintro e9 vL6 ⟨rfl, hb9⟩
  have L6 := Lib.hid (L4.out.next hb9)
  clear hb9 L4
  have q3 := (L6.out.bx (w.heap.size + 1) (kv k) (by simp)).cel 3 (.slice k.wk.a k.wk.n k.wk.c) rfl
  go_wp2
  go_ret
  exact ⟨rfl, L6.out.bel⟩
set_option maxHeartbeats 8000000 in
theorem walk_pa (s : Hs) (d : Hd_) (k : Sh.Ks) (xs : List Int) (w : World) (hf : Sh.fewK s k = true) (h5 : k.ph = 5) (hmj : k.mj = true) (hm : mayB0 s d = true) (hkn : knownI k xs (Sh.greyL s d k.mj k.ep) = 0) (hwk : k.wk.n ≤ 4) (hpa : ¬ k.pa = 0) (hz : Cl.Sz w) (hp : Hp w w.heap.size s d) (hv : ∀ i, -9223372036854775808 ≤ d.ws.getD i 0 ∧ d.ws.getD i 0 ≤ 9223372036854775807) (hk : Sh.WRow w w.heap.size k xs) : Calls Tryz.prog 7 #[(.agg #[.slice s.w.a s.w.n s.w.c, .slice s.p.a s.p.n s.p.c, .slice (s.u 0).a (s.u 0).n (s.u 0).c, .slice (s.u 1).a (s.u 1).n (s.u 1).c, .slice (s.u 2).a (s.u 2).n (s.u 2).c, .slice s.c.a s.c.n s.c.c]), (.agg #[.int .i64 k.ph, .int .i64 k.ep, .bool k.mj, .slice k.wk.a k.wk.n k.wk.c, .bool k.ov, .int .i64 k.pa, .int .i64 k.pf, .int .i64 k.ps, .int .i64 k.pc, .bool k.me])] w fun e w' => e = .returned (.bool true) ∧ Below w.heap.size w w' := by
  obtain ⟨hin, hx, hwn, hlen⟩ := few_in hf hp hv hk hz
  have HMJ := Lib.hid hmj
  have CM := Lib.hid (fun W (hW : Hold W (⟨s, k, d, xs⟩ : Q2)) (hz : Cl.Sz W) => pmay0_any s d W hW.h hz hin.fine)
  rw [hm] at CM
  have CK := Lib.hid (fun W (hW : Hold W (⟨s, k, d, xs⟩ : Q2)) (hz : Cl.Sz W) => known_call (⟨s, k, d, xs⟩ : Q2) W ⟨hW, hz, hin.fine, hin.x⟩)
  rw [show knownI (⟨s, k, d, xs⟩ : Q2).k (⟨s, k, d, xs⟩ : Q2).xs (Sh.greyL (⟨s, k, d, xs⟩ : Q2).s (⟨s, k, d, xs⟩ : Q2).d (⟨s, k, d, xs⟩ : Q2).k.mj (⟨s, k, d, xs⟩ : Q2).k.ep) = 0 from hkn] at CK
  have a1 : decide (k.ph = 5) = true := decide_eq_true h5
  have a2 : (k.ph == 5) = true := a1
  have a3 : (k.ph != 5) = false := by rw [bne, a2]; rfl
  have b1 : decide ((k.wk.n : Int) > 4) = false := decide_eq_false (by omega)
  have b2 : decide ((4 : Int) < k.wk.n) = false := b1
  have c1 : decide (k.pa = 0) = false := decide_eq_false hpa
  have c2 : (k.pa == 0) = false := c1
  have c3 : (k.pa != 0) = true := by rw [bne, c2]; rfl
  clear hin hx hwn hlen h5 hmj hm hkn hwk hpa
  have HZ := Lib.hid hz
  have CF := Lib.hid (fun W => Tr.few_any s k W)
  rw [hf] at CF
  go_enter Tryz.func7, Tryz.ntmps7
  go_upto_region 1 with fail
  obtain ⟨W1, hW1⟩ : ∃ W1, W1 = (w.alloc (.cells #[.slice s.w.a s.w.n s.w.c, .slice s.p.a s.p.n s.p.c, .slice (s.u 0).a (s.u 0).n (s.u 0).c, .slice (s.u 1).a (s.u 1).n (s.u 1).c, .slice (s.u 2).a (s.u 2).n (s.u 2).c, .slice s.c.a s.c.n s.c.c] 28)).alloc (.cells #[.int .i64 k.ph, .int .i64 k.ep, .bool k.mj, .slice k.wk.a k.wk.n k.wk.c, .bool k.ov, .int .i64 k.pa, .int .i64 k.pf, .int .i64 k.ps, .int .i64 k.pc, .bool k.me] 30) := ⟨_, rfl⟩
  have L1 := Lib.hid (((lq_none w).two (s := s) (k := k) hW1).held (n := (⟨s, k, d, xs⟩ : Q2)) ⟨hp.next (by rw [hW1]; exact ((Below.refl _ _).alloc (Nat.le_refl _) _).alloc (by simp) _), hk.next (by rw [hW1]; exact ((Below.refl _ _).alloc (Nat.le_refl _) _).alloc (by simp) _)⟩)
  rw [← hW1]
  clear hW1 hz hp hv hk hf
  go_upto_region 2 with ((go_at_call 22); (with_reducible refine (Tr.awake_any _ (L1.out.over HZ.out)).mono ?_); rintro e9 w2 ⟨rfl, hb9⟩; have L2 := Lib.hid (L1.out.next hb9); clear hb9 L1)
  go_upto_region 3 with (first
    | (refine w_load (ldHb (L2.out.bx (w.heap.size) (hv s) (by simp))) rfl rfl rfl rfl ?_)
    | (refine w_load (ldKb (L2.out.bx (w.heap.size + 1) (kv k) (by simp))) rfl rfl rfl rfl ?_)
    | ((go_at_call 23); (with_reducible refine (CF.out _).mono ?_); rintro e9 w3 ⟨rfl, hb9⟩; have L3 := Lib.hid (L2.out.next hb9); clear hb9 L2))
  have q0 := (L3.out.bx (w.heap.size + 1) (kv k) (by simp)).cel 0 (.int .i64 k.ph) rfl
  have qm := (L3.out.bx (w.heap.size + 1) (kv k) (by simp)).cel 2 (.bool true) (by rw [← HMJ.out]; rfl)
  go_upto_region 5 with (first
    | (refine w_loadg (ldHb (L3.out.bx (w.heap.size) (hv s) (by simp))) rfl (by kernel_rfl) rfl rfl ?_)
    | fail)
  refine (CM.out _ (L3.out.at _ (by simp)) (L3.out.over HZ.out)).mono ?_
  rintro e9 vL4 ⟨rfl, hb9⟩
  have L4 := Lib.hid (L3.out.next hb9)
  clear hb9 L3
  clear q0
  go_upto_region 5 with (first
    | (refine w_loadg (ldHb (L4.out.bx (w.heap.size) (hv s) (by simp))) rfl (by kernel_rfl) rfl rfl ?_)
    | (refine w_loadg (ldKb (L4.out.bx (w.heap.size + 1) (kv k) (by simp))) rfl (by kernel_rfl) rfl rfl ?_)
    | fail)
  refine (CK.out _ (L4.out.at _ (by simp)) (L4.out.over HZ.out)).mono ?_
  rintro e9 vL6 ⟨rfl, hb9⟩
  have L6 := Lib.hid (L4.out.next hb9)
  clear hb9 L4
  have q3 := (L6.out.bx (w.heap.size + 1) (kv k) (by simp)).cel 3 (.slice k.wk.a k.wk.n k.wk.c) rfl
  have q5 := (L6.out.bx (w.heap.size + 1) (kv k) (by simp)).cel 5 (.int .i64 k.pa) rfl
  go_wp2
  go_ret
  exact ⟨rfl, L6.out.bel⟩
set_option maxHeartbeats 8000000 in
theorem walk_pf (s : Hs) (d : Hd_) (k : Sh.Ks) (xs : List Int) (w : World) (hf : Sh.fewK s k = true) (h5 : k.ph = 5) (hmj : k.mj = true) (hm : mayB0 s d = true) (hkn : knownI k xs (Sh.greyL s d k.mj k.ep) = 0) (hwk : k.wk.n ≤ 4) (hpa : k.pa = 0) (hpf : ¬ k.pf = 0) (hz : Cl.Sz w) (hp : Hp w w.heap.size s d) (hv : ∀ i, -9223372036854775808 ≤ d.ws.getD i 0 ∧ d.ws.getD i 0 ≤ 9223372036854775807) (hk : Sh.WRow w w.heap.size k xs) : Calls Tryz.prog 7 #[(.agg #[.slice s.w.a s.w.n s.w.c, .slice s.p.a s.p.n s.p.c, .slice (s.u 0).a (s.u 0).n (s.u 0).c, .slice (s.u 1).a (s.u 1).n (s.u 1).c, .slice (s.u 2).a (s.u 2).n (s.u 2).c, .slice s.c.a s.c.n s.c.c]), (.agg #[.int .i64 k.ph, .int .i64 k.ep, .bool k.mj, .slice k.wk.a k.wk.n k.wk.c, .bool k.ov, .int .i64 k.pa, .int .i64 k.pf, .int .i64 k.ps, .int .i64 k.pc, .bool k.me])] w fun e w' => e = .returned (.bool true) ∧ Below w.heap.size w w' := by
  obtain ⟨hin, hx, hwn, hlen⟩ := few_in hf hp hv hk hz
  have HMJ := Lib.hid hmj
  have CM := Lib.hid (fun W (hW : Hold W (⟨s, k, d, xs⟩ : Q2)) (hz : Cl.Sz W) => pmay0_any s d W hW.h hz hin.fine)
  rw [hm] at CM
  have CK := Lib.hid (fun W (hW : Hold W (⟨s, k, d, xs⟩ : Q2)) (hz : Cl.Sz W) => known_call (⟨s, k, d, xs⟩ : Q2) W ⟨hW, hz, hin.fine, hin.x⟩)
  rw [show knownI (⟨s, k, d, xs⟩ : Q2).k (⟨s, k, d, xs⟩ : Q2).xs (Sh.greyL (⟨s, k, d, xs⟩ : Q2).s (⟨s, k, d, xs⟩ : Q2).d (⟨s, k, d, xs⟩ : Q2).k.mj (⟨s, k, d, xs⟩ : Q2).k.ep) = 0 from hkn] at CK
  have a1 : decide (k.ph = 5) = true := decide_eq_true h5
  have a2 : (k.ph == 5) = true := a1
  have a3 : (k.ph != 5) = false := by rw [bne, a2]; rfl
  have b1 : decide ((k.wk.n : Int) > 4) = false := decide_eq_false (by omega)
  have b2 : decide ((4 : Int) < k.wk.n) = false := b1
  have c1 : decide (k.pa = 0) = true := decide_eq_true hpa
  have c2 : (k.pa == 0) = true := c1
  have c3 : (k.pa != 0) = false := by rw [bne, c2]; rfl
  have d1 : decide (k.pf = 0) = false := decide_eq_false hpf
  have d2 : (k.pf == 0) = false := d1
  have d3 : (k.pf != 0) = true := by rw [bne, d2]; rfl
  clear hin hx hwn hlen h5 hmj hm hkn hwk hpa hpf
  have HZ := Lib.hid hz
  have CF := Lib.hid (fun W => Tr.few_any s k W)
  rw [hf] at CF
  go_enter Tryz.func7, Tryz.ntmps7
  go_upto_region 1 with fail
  obtain ⟨W1, hW1⟩ : ∃ W1, W1 = (w.alloc (.cells #[.slice s.w.a s.w.n s.w.c, .slice s.p.a s.p.n s.p.c, .slice (s.u 0).a (s.u 0).n (s.u 0).c, .slice (s.u 1).a (s.u 1).n (s.u 1).c, .slice (s.u 2).a (s.u 2).n (s.u 2).c, .slice s.c.a s.c.n s.c.c] 28)).alloc (.cells #[.int .i64 k.ph, .int .i64 k.ep, .bool k.mj, .slice k.wk.a k.wk.n k.wk.c, .bool k.ov, .int .i64 k.pa, .int .i64 k.pf, .int .i64 k.ps, .int .i64 k.pc, .bool k.me] 30) := ⟨_, rfl⟩
  have L1 := Lib.hid (((lq_none w).two (s := s) (k := k) hW1).held (n := (⟨s, k, d, xs⟩ : Q2)) ⟨hp.next (by rw [hW1]; exact ((Below.refl _ _).alloc (Nat.le_refl _) _).alloc (by simp) _), hk.next (by rw [hW1]; exact ((Below.refl _ _).alloc (Nat.le_refl _) _).alloc (by simp) _)⟩)
  rw [← hW1]
  clear hW1 hz hp hv hk hf
  go_upto_region 2 with ((go_at_call 22); (with_reducible refine (Tr.awake_any _ (L1.out.over HZ.out)).mono ?_); rintro e9 w2 ⟨rfl, hb9⟩; have L2 := Lib.hid (L1.out.next hb9); clear hb9 L1)
  go_upto_region 3 with (first
    | (refine w_load (ldHb (L2.out.bx (w.heap.size) (hv s) (by simp))) rfl rfl rfl rfl ?_)
    | (refine w_load (ldKb (L2.out.bx (w.heap.size + 1) (kv k) (by simp))) rfl rfl rfl rfl ?_)
    | ((go_at_call 23); (with_reducible refine (CF.out _).mono ?_); rintro e9 w3 ⟨rfl, hb9⟩; have L3 := Lib.hid (L2.out.next hb9); clear hb9 L2))
  have q0 := (L3.out.bx (w.heap.size + 1) (kv k) (by simp)).cel 0 (.int .i64 k.ph) rfl
  have qm := (L3.out.bx (w.heap.size + 1) (kv k) (by simp)).cel 2 (.bool true) (by rw [← HMJ.out]; rfl)
  go_upto_region 5 with (first
    | (refine w_loadg (ldHb (L3.out.bx (w.heap.size) (hv s) (by simp))) rfl (by kernel_rfl) rfl rfl ?_)
    | fail)
  refine (CM.out _ (L3.out.at _ (by simp)) (L3.out.over HZ.out)).mono ?_
  rintro e9 vL4 ⟨rfl, hb9⟩
  have L4 := Lib.hid (L3.out.next hb9)
  clear hb9 L3
  clear q0
  go_upto_region 5 with (first
    | (refine w_loadg (ldHb (L4.out.bx (w.heap.size) (hv s) (by simp))) rfl (by kernel_rfl) rfl rfl ?_)
    | (refine w_loadg (ldKb (L4.out.bx (w.heap.size + 1) (kv k) (by simp))) rfl (by kernel_rfl) rfl rfl ?_)
    | fail)
  refine (CK.out _ (L4.out.at _ (by simp)) (L4.out.over HZ.out)).mono ?_
  rintro e9 vL6 ⟨rfl, hb9⟩
  have L6 := Lib.hid (L4.out.next hb9)
  clear hb9 L4
  have q3 := (L6.out.bx (w.heap.size + 1) (kv k) (by simp)).cel 3 (.slice k.wk.a k.wk.n k.wk.c) rfl
  have q5 := (L6.out.bx (w.heap.size + 1) (kv k) (by simp)).cel 5 (.int .i64 k.pa) rfl
  have q6 := (L6.out.bx (w.heap.size + 1) (kv k) (by simp)).cel 6 (.int .i64 k.pf) rfl
  go_wp2
  go_ret
  exact ⟨rfl, L6.out.bel⟩
set_option maxHeartbeats 8000000 in
theorem walk_ps (s : Hs) (d : Hd_) (k : Sh.Ks) (xs : List Int) (w : World) (hf : Sh.fewK s k = true) (h5 : k.ph = 5) (hmj : k.mj = true) (hm : mayB0 s d = true) (hkn : knownI k xs (Sh.greyL s d k.mj k.ep) = 0) (hwk : k.wk.n ≤ 4) (hpa : k.pa = 0) (hpf : k.pf = 0) (hps : ¬ k.ps = 0) (hz : Cl.Sz w) (hp : Hp w w.heap.size s d) (hv : ∀ i, -9223372036854775808 ≤ d.ws.getD i 0 ∧ d.ws.getD i 0 ≤ 9223372036854775807) (hk : Sh.WRow w w.heap.size k xs) : Calls Tryz.prog 7 #[(.agg #[.slice s.w.a s.w.n s.w.c, .slice s.p.a s.p.n s.p.c, .slice (s.u 0).a (s.u 0).n (s.u 0).c, .slice (s.u 1).a (s.u 1).n (s.u 1).c, .slice (s.u 2).a (s.u 2).n (s.u 2).c, .slice s.c.a s.c.n s.c.c]), (.agg #[.int .i64 k.ph, .int .i64 k.ep, .bool k.mj, .slice k.wk.a k.wk.n k.wk.c, .bool k.ov, .int .i64 k.pa, .int .i64 k.pf, .int .i64 k.ps, .int .i64 k.pc, .bool k.me])] w fun e w' => e = .returned (.bool true) ∧ Below w.heap.size w w' := by
  obtain ⟨hin, hx, hwn, hlen⟩ := few_in hf hp hv hk hz
  have HMJ := Lib.hid hmj
  have CM := Lib.hid (fun W (hW : Hold W (⟨s, k, d, xs⟩ : Q2)) (hz : Cl.Sz W) => pmay0_any s d W hW.h hz hin.fine)
  rw [hm] at CM
  have CK := Lib.hid (fun W (hW : Hold W (⟨s, k, d, xs⟩ : Q2)) (hz : Cl.Sz W) => known_call (⟨s, k, d, xs⟩ : Q2) W ⟨hW, hz, hin.fine, hin.x⟩)
  rw [show knownI (⟨s, k, d, xs⟩ : Q2).k (⟨s, k, d, xs⟩ : Q2).xs (Sh.greyL (⟨s, k, d, xs⟩ : Q2).s (⟨s, k, d, xs⟩ : Q2).d (⟨s, k, d, xs⟩ : Q2).k.mj (⟨s, k, d, xs⟩ : Q2).k.ep) = 0 from hkn] at CK
  have a1 : decide (k.ph = 5) = true := decide_eq_true h5
  have a2 : (k.ph == 5) = true := a1
  have a3 : (k.ph != 5) = false := by rw [bne, a2]; rfl
  have b1 : decide ((k.wk.n : Int) > 4) = false := decide_eq_false (by omega)
  have b2 : decide ((4 : Int) < k.wk.n) = false := b1
  have c1 : decide (k.pa = 0) = true := decide_eq_true hpa
  have c2 : (k.pa == 0) = true := c1
  have c3 : (k.pa != 0) = false := by rw [bne, c2]; rfl
  have d1 : decide (k.pf = 0) = true := decide_eq_true hpf
  have d2 : (k.pf == 0) = true := d1
  have d3 : (k.pf != 0) = false := by rw [bne, d2]; rfl
  have e1 : decide (k.ps = 0) = false := decide_eq_false hps
  have e2 : (k.ps == 0) = false := e1
  have e3 : (k.ps != 0) = true := by rw [bne, e2]; rfl
  clear hin hx hwn hlen h5 hmj hm hkn hwk hpa hpf hps
  have HZ := Lib.hid hz
  have CF := Lib.hid (fun W => Tr.few_any s k W)
  rw [hf] at CF
  go_enter Tryz.func7, Tryz.ntmps7
  go_upto_region 1 with fail
  obtain ⟨W1, hW1⟩ : ∃ W1, W1 = (w.alloc (.cells #[.slice s.w.a s.w.n s.w.c, .slice s.p.a s.p.n s.p.c, .slice (s.u 0).a (s.u 0).n (s.u 0).c, .slice (s.u 1).a (s.u 1).n (s.u 1).c, .slice (s.u 2).a (s.u 2).n (s.u 2).c, .slice s.c.a s.c.n s.c.c] 28)).alloc (.cells #[.int .i64 k.ph, .int .i64 k.ep, .bool k.mj, .slice k.wk.a k.wk.n k.wk.c, .bool k.ov, .int .i64 k.pa, .int .i64 k.pf, .int .i64 k.ps, .int .i64 k.pc, .bool k.me] 30) := ⟨_, rfl⟩
  have L1 := Lib.hid (((lq_none w).two (s := s) (k := k) hW1).held (n := (⟨s, k, d, xs⟩ : Q2)) ⟨hp.next (by rw [hW1]; exact ((Below.refl _ _).alloc (Nat.le_refl _) _).alloc (by simp) _), hk.next (by rw [hW1]; exact ((Below.refl _ _).alloc (Nat.le_refl _) _).alloc (by simp) _)⟩)
  rw [← hW1]
  clear hW1 hz hp hv hk hf
  go_upto_region 2 with ((go_at_call 22); (with_reducible refine (Tr.awake_any _ (L1.out.over HZ.out)).mono ?_); rintro e9 w2 ⟨rfl, hb9⟩; have L2 := Lib.hid (L1.out.next hb9); clear hb9 L1)
  go_upto_region 3 with (first
    | (refine w_load (ldHb (L2.out.bx (w.heap.size) (hv s) (by simp))) rfl rfl rfl rfl ?_)
    | (refine w_load (ldKb (L2.out.bx (w.heap.size + 1) (kv k) (by simp))) rfl rfl rfl rfl ?_)
    | ((go_at_call 23); (with_reducible refine (CF.out _).mono ?_); rintro e9 w3 ⟨rfl, hb9⟩; have L3 := Lib.hid (L2.out.next hb9); clear hb9 L2))
  have q0 := (L3.out.bx (w.heap.size + 1) (kv k) (by simp)).cel 0 (.int .i64 k.ph) rfl
  have qm := (L3.out.bx (w.heap.size + 1) (kv k) (by simp)).cel 2 (.bool true) (by rw [← HMJ.out]; rfl)
  go_upto_region 5 with (first
    | (refine w_loadg (ldHb (L3.out.bx (w.heap.size) (hv s) (by simp))) rfl (by kernel_rfl) rfl rfl ?_)
    | fail)
  refine (CM.out _ (L3.out.at _ (by simp)) (L3.out.over HZ.out)).mono ?_
  rintro e9 vL4 ⟨rfl, hb9⟩
  have L4 := Lib.hid (L3.out.next hb9)
  clear hb9 L3
  clear q0
  go_upto_region 5 with (first
    | (refine w_loadg (ldHb (L4.out.bx (w.heap.size) (hv s) (by simp))) rfl (by kernel_rfl) rfl rfl ?_)
    | (refine w_loadg (ldKb (L4.out.bx (w.heap.size + 1) (kv k) (by simp))) rfl (by kernel_rfl) rfl rfl ?_)
    | fail)
  refine (CK.out _ (L4.out.at _ (by simp)) (L4.out.over HZ.out)).mono ?_
  rintro e9 vL6 ⟨rfl, hb9⟩
  have L6 := Lib.hid (L4.out.next hb9)
  clear hb9 L4
  have q3 := (L6.out.bx (w.heap.size + 1) (kv k) (by simp)).cel 3 (.slice k.wk.a k.wk.n k.wk.c) rfl
  have q5 := (L6.out.bx (w.heap.size + 1) (kv k) (by simp)).cel 5 (.int .i64 k.pa) rfl
  have q6 := (L6.out.bx (w.heap.size + 1) (kv k) (by simp)).cel 6 (.int .i64 k.pf) rfl
  have q7 := (L6.out.bx (w.heap.size + 1) (kv k) (by simp)).cel 7 (.int .i64 k.ps) rfl
  go_wp2
  go_ret
  exact ⟨rfl, L6.out.bel⟩
/-- The row that grows, and the head that was laid. -/
structure In3 (v wr : World) (t : Ls.Sl) (R : List Int) (x : Nat) (VS : List Value) : Prop where
  al : Ls.Alling v wr t R
  bx : Box wr x VS
  off : ∀ z, t.a = some z → ¬ z.block = x
theorem In3.next {v wr W : World} {t : Ls.Sl} {R : List Int} {x : Nat} {VS : List Value} (h : In3 v wr t R x VS) (hb : Below wr.heap.size wr W) : In3 v W t R x VS := ⟨Sh.all_step h.al hb, h.bx.next hb, h.off⟩
theorem In3.cat {v wr w2 : World} {A : Option Addr} {n c m cp : Nat} {p : Option Addr} {o : Obj} {R R' : List Int} {x : Nat} {VS : List Value} (h : In3 v wr ⟨A, n, c⟩ R x VS) (hc : Ls.Catted (wr.alloc o) v.heap.size (.slice A n c) ⟨p, m, cp⟩ R' w2) : In3 v w2 ⟨p, m, cp⟩ R' x VS :=
  by
    have hb : Below wr.heap.size wr (wr.alloc o) := (Below.refl _ _).alloc (Nat.le_refl _) o
    have h1 : ∀ z : Nat, (Value.slice A n c).ownBlock = some z → ¬ z = x := fun z hz e => by
      rw [Ls.ownBlock_slice] at hz
      cases A with
      | none => cases hz
      | some y => exact h.off y rfl (by have : some y.block = some z := hz; rw [← e]; exact Option.some.inj this)
    refine ⟨(h.al.alloc o).cat hc, (h.bx.next hb).same (hc.grown.block x (Nat.lt_of_lt_of_le h.bx.lt hb.size) fun e => h1 x e.symm rfl) hc.grown.size, fun z hz e => ?_⟩
    rcases hc.lies z hz with g | g
    · exact h1 _ g e
    · have := h.bx.lt; have := hb.size; omega
set_option maxHeartbeats 8000000 in
theorem walk_steps (s : Hs) (d : Hd_) (k : Sh.Ks) (xs : List Int) (w : World) (hf : Sh.fewK s k = true) (h5 : k.ph = 5) (hmj : k.mj = true) (hm : mayB0 s d = true) (hkn : knownI k xs (Sh.greyL s d k.mj k.ep) = 0) (hwk : k.wk.n ≤ 4) (hpa : k.pa = 0) (hpf : k.pf = 0) (hps : k.ps = 0) (hz : Cl.Sz w) (hp : Hp w w.heap.size s d) (hv : ∀ i, -9223372036854775808 ≤ d.ws.getD i 0 ∧ d.ws.getD i 0 ≤ 9223372036854775807) (hk : Sh.WRow w w.heap.size k xs) : Calls Tryz.prog 7 #[(.agg #[.slice s.w.a s.w.n s.w.c, .slice s.p.a s.p.n s.p.c, .slice (s.u 0).a (s.u 0).n (s.u 0).c, .slice (s.u 1).a (s.u 1).n (s.u 1).c, .slice (s.u 2).a (s.u 2).n (s.u 2).c, .slice s.c.a s.c.n s.c.c]), (.agg #[.int .i64 k.ph, .int .i64 k.ep, .bool k.mj, .slice k.wk.a k.wk.n k.wk.c, .bool k.ov, .int .i64 k.pa, .int .i64 k.pf, .int .i64 k.ps, .int .i64 k.pc, .bool k.me])] w fun e w' => e = .returned (.bool true) ∧ Below w.heap.size w w' := by
  obtain ⟨hin, hx, hwn, hlen⟩ := few_in hf hp hv hk hz
  have HMJ := Lib.hid hmj
  have CM := Lib.hid (fun W (hW : Hold W (⟨s, k, d, xs⟩ : Q2)) (hz : Cl.Sz W) => pmay0_any s d W hW.h hz hin.fine)
  rw [hm] at CM
  have CK := Lib.hid (fun W (hW : Hold W (⟨s, k, d, xs⟩ : Q2)) (hz : Cl.Sz W) => known_call (⟨s, k, d, xs⟩ : Q2) W ⟨hW, hz, hin.fine, hin.x⟩)
  rw [show knownI (⟨s, k, d, xs⟩ : Q2).k (⟨s, k, d, xs⟩ : Q2).xs (Sh.greyL (⟨s, k, d, xs⟩ : Q2).s (⟨s, k, d, xs⟩ : Q2).d (⟨s, k, d, xs⟩ : Q2).k.mj (⟨s, k, d, xs⟩ : Q2).k.ep) = 0 from hkn] at CK
  have a1 : decide (k.ph = 5) = true := decide_eq_true h5
  have a2 : (k.ph == 5) = true := a1
  have a3 : (k.ph != 5) = false := by rw [bne, a2]; rfl
  have b1 : decide ((k.wk.n : Int) > 4) = false := decide_eq_false (by omega)
  have b2 : decide ((4 : Int) < k.wk.n) = false := b1
  have c1 : decide (k.pa = 0) = true := decide_eq_true hpa
  have c2 : (k.pa == 0) = true := c1
  have c3 : (k.pa != 0) = false := by rw [bne, c2]; rfl
  have d1 : decide (k.pf = 0) = true := decide_eq_true hpf
  have d2 : (k.pf == 0) = true := d1
  have d3 : (k.pf != 0) = false := by rw [bne, d2]; rfl
  have e1 : decide (k.ps = 0) = true := decide_eq_true hps
  have e2 : (k.ps == 0) = true := e1
  have e3 : (k.ps != 0) = false := by rw [bne, e2]; rfl
  have hp9 : s.p.n ≤ 9 := by
    have h := hf
    unfold Sh.fewK at h
    rw [Bool.and_eq_true] at h
    exact (few_parts h.1).2.1
  have hx4 : xs.length ≤ 4 := by rw [← hk.len]; exact hwk
  have hw16 : s.w.n = 16 * s.p.n := (fit_w (mayH_all hm).1).2
  have HS := Lib.hid (start_rch (xs := xs) hm hin.fine hlen h5 (known_is hkn) hx4 hpa hpf)
  have hls := left_start (s := s) (d := d) (k := k) (xs := xs) hm hp9 hpa hps hx4
  obtain ⟨n0, hn0⟩ : ∃ n0 : Nat, (n0 : Int) = (s.w.n : Int) * (s.w.n : Int) / 4 + 40 := ⟨((s.w.n : Int) * (s.w.n : Int) / 4 + 40).toNat, by have : 0 ≤ (s.w.n : Int) * (s.w.n : Int) := Int.mul_nonneg (by omega) (by omega); omega⟩
  have hlt : left s d k xs < (n0 : Int) := by rw [hn0, show (s.w.n : Int) = 16 * (s.p.n : Int) by omega]; exact hls
  have HL := Lib.hid hlt
  have hsq : (s.w.n : Int) * (s.w.n : Int) ≤ 130 * 130 := Int.mul_le_mul (by omega) (by omega) (by omega) (by omega)
  have hsq0 : 0 ≤ (s.w.n : Int) * (s.w.n : Int) := Int.mul_nonneg (by omega) (by omega)
  have WF1 := Lib.hid (show IntKind.i64.wrap ((s.w.n : Int) * (s.w.n : Int)) = (s.w.n : Int) * (s.w.n : Int) from IntWalk.i64_in _ (by omega))
  have WF2 := Lib.hid (show Int.tdiv ((s.w.n : Int) * (s.w.n : Int)) 4 = (s.w.n : Int) * (s.w.n : Int) / 4 from Int.tdiv_eq_ediv_of_nonneg hsq0)
  have WF3 := Lib.hid (show IntKind.i64.wrap ((s.w.n : Int) * (s.w.n : Int) / 4) = (s.w.n : Int) * (s.w.n : Int) / 4 from IntWalk.i64_in _ (by omega))
  have WF4 := Lib.hid (show IntKind.i64.wrap ((s.w.n : Int) * (s.w.n : Int) / 4 + 40) = (n0 : Int) by rw [← hn0]; exact IntWalk.i64_in _ (by omega))
  have N9 : Hid (n0 ≤ 5000) := Lib.hid (by omega)
  have HH : Hid (Hold w (⟨s, k, d, xs⟩ : Q2)) := Lib.hid ⟨hp, hk⟩
  have HFI := Lib.hid hin.fine
  have CG := Lib.hid (fun W (hW : Hold W (⟨s, k, d, xs⟩ : Q2)) => rgrey_any (⟨s, k, d, xs⟩ : Q2) W hW hin.fine)
  have CC := Lib.hid (fun W y (hW : Hold W (⟨s, k, d, xs⟩ : Q2)) => rcol_any s d k y W hW.h hin.fine)
  have CH := Lib.hid (fun W y (hW : Hold W (⟨s, k, d, xs⟩ : Q2)) => rhead_any s d y W hW.h hin.fine)
  have CU := Lib.hid (fun W (hW : Hold W (⟨s, k, d, xs⟩ : Q2)) (hz : Cl.Sz W) => pused_any s d W hW.h hz hin.fine)
  clear hin hx hwn hlen h5 hmj hm hkn hwk hpa hpf hps hp9 hx4 hw16 hls hn0 hlt hsq hsq0
  have HZ := Lib.hid hz
  have CF := Lib.hid (fun W => Tr.few_any s k W)
  rw [hf] at CF
  go_enter Tryz.func7, Tryz.ntmps7
  go_upto_region 1 with fail
  obtain ⟨W1, hW1⟩ : ∃ W1, W1 = (w.alloc (.cells #[.slice s.w.a s.w.n s.w.c, .slice s.p.a s.p.n s.p.c, .slice (s.u 0).a (s.u 0).n (s.u 0).c, .slice (s.u 1).a (s.u 1).n (s.u 1).c, .slice (s.u 2).a (s.u 2).n (s.u 2).c, .slice s.c.a s.c.n s.c.c] 28)).alloc (.cells #[.int .i64 k.ph, .int .i64 k.ep, .bool k.mj, .slice k.wk.a k.wk.n k.wk.c, .bool k.ov, .int .i64 k.pa, .int .i64 k.pf, .int .i64 k.ps, .int .i64 k.pc, .bool k.me] 30) := ⟨_, rfl⟩
  have L1 := Lib.hid (((lq_none w).two (s := s) (k := k) hW1).held (n := (⟨s, k, d, xs⟩ : Q2)) ⟨hp.next (by rw [hW1]; exact ((Below.refl _ _).alloc (Nat.le_refl _) _).alloc (by simp) _), hk.next (by rw [hW1]; exact ((Below.refl _ _).alloc (Nat.le_refl _) _).alloc (by simp) _)⟩)
  rw [← hW1]
  clear hW1 hz hp hv hk hf
  go_upto_region 2 with ((go_at_call 22); (with_reducible refine (Tr.awake_any _ (L1.out.over HZ.out)).mono ?_); rintro e9 w2 ⟨rfl, hb9⟩; have L2 := Lib.hid (L1.out.next hb9); clear hb9 L1)
  go_upto_region 3 with (first
    | (refine w_load (ldHb (L2.out.bx (w.heap.size) (hv s) (by simp))) rfl rfl rfl rfl ?_)
    | (refine w_load (ldKb (L2.out.bx (w.heap.size + 1) (kv k) (by simp))) rfl rfl rfl rfl ?_)
    | ((go_at_call 23); (with_reducible refine (CF.out _).mono ?_); rintro e9 w3 ⟨rfl, hb9⟩; have L3 := Lib.hid (L2.out.next hb9); clear hb9 L2))
  have q0 := (L3.out.bx (w.heap.size + 1) (kv k) (by simp)).cel 0 (.int .i64 k.ph) rfl
  have qm := (L3.out.bx (w.heap.size + 1) (kv k) (by simp)).cel 2 (.bool true) (by rw [← HMJ.out]; rfl)
  go_upto_region 5 with (first
    | (refine w_loadg (ldHb (L3.out.bx (w.heap.size) (hv s) (by simp))) rfl (by kernel_rfl) rfl rfl ?_)
    | fail)
  refine (CM.out _ (L3.out.at _ (by simp)) (L3.out.over HZ.out)).mono ?_
  rintro e9 vL4 ⟨rfl, hb9⟩
  have L4 := Lib.hid (L3.out.next hb9)
  clear hb9 L3
  clear q0
  go_upto_region 5 with (first
    | (refine w_loadg (ldHb (L4.out.bx (w.heap.size) (hv s) (by simp))) rfl (by kernel_rfl) rfl rfl ?_)
    | (refine w_loadg (ldKb (L4.out.bx (w.heap.size + 1) (kv k) (by simp))) rfl (by kernel_rfl) rfl rfl ?_)
    | fail)
  refine (CK.out _ (L4.out.at _ (by simp)) (L4.out.over HZ.out)).mono ?_
  rintro e9 vL6 ⟨rfl, hb9⟩
  have L6 := Lib.hid (L4.out.next hb9)
  clear hb9 L4
  have q3 := (L6.out.bx (w.heap.size + 1) (kv k) (by simp)).cel 3 (.slice k.wk.a k.wk.n k.wk.c) rfl
  have q5 := (L6.out.bx (w.heap.size + 1) (kv k) (by simp)).cel 5 (.int .i64 k.pa) rfl
  have q6 := (L6.out.bx (w.heap.size + 1) (kv k) (by simp)).cel 6 (.int .i64 k.pf) rfl
  have q7 := (L6.out.bx (w.heap.size + 1) (kv k) (by simp)).cel 7 (.int .i64 k.ps) rfl
  go_upto_region 5 with fail
  clear qm q3 q5 q6 q7 a1 a2 a3 b1 b2 c1 c2 c3 d1 d2 d3 e1 e2 e3
  go_upto_region 6 with (first
    | (refine w_loadg (ldHb (L6.out.bx (w.heap.size) (hv s) (by simp))) rfl (by kernel_rfl) rfl rfl ?_)
    | (refine w_loadg (ldKb (L6.out.bx (w.heap.size + 1) (kv k) (by simp))) rfl (by kernel_rfl) rfl rfl ?_)
    | ((go_at_call 35); (with_reducible refine (CG.out _ (L6.out.at _ (by simp))).mono ?_); rintro e9 w7 ⟨⟨va, vn, vc⟩, rfl, ho, hb9⟩; have OH := Lib.hid (show Ls.Alling vL6 w7 ⟨va, vn, vc⟩ (Sh.greyL s d k.mj k.ep) from ⟨ho, hb9⟩); clear ho hb9))
  have GS := Lib.hid (clo_start s d k.mj k.ep)
  have hvn : vn ≤ 512 := by have h1 := GS.out.len; have h2 := OH.out.len; have h3 : vn = (Sh.greyL s d k.mj k.ep).length := h2; omega
  go_wp2
  go_loopg [7] (513 - vn) (fun g r wr => ∃ (t : Ls.Sl) (R : List Int), t.n + g = 513 ∧ r = .slice t.a t.n t.c ∧ Hid (Ls.Alling vL6 wr t R ∧ Clo s d k.mj k.ep R))
  case atStart => exact ⟨⟨va, vn, vc⟩, _, by show vn + (513 - vn) = 513; omega, rfl, Lib.hid ⟨OH.out, GS.out⟩⟩
  case round =>
    obtain ⟨⟨ta, tn, tc⟩, R1, hg1, rfl, HE1⟩ := hrel
    have HG1 := Lib.hid hg1
    obtain ⟨g1, rfl⟩ : ∃ g1 : Nat, g1 = gk := ⟨_, rfl⟩
    have ht1 : tn ≤ 512 := by have h1 := HE1.out.2.len; have h2 : tn = R1.length := HE1.out.1.len; omega
    have HR1 : Hid (tn = R1.length) := Lib.hid HE1.out.1.len
    clear hg1 OH GS
    go_wp2
    go_loopw [7, 9] (fun r i wr => ∃ (t : Ls.Sl) (R : List Int) (q : Nat), q ≤ tn ∧ r = .slice t.a t.n t.c ∧ i = .int .i64 q ∧ Hid (Ls.Alling vL6 wr t R ∧ Grown s d k.mj k.ep R1 R q)) (fun _ i _ => tn - (intOf i).toNat)
    case atStart => exact ⟨⟨ta, tn, tc⟩, R1, 0, by omega, rfl, rfl, Lib.hid ⟨HE1.out.1, grown_start HE1.out.2⟩⟩
    case round =>
      obtain ⟨⟨ua, un, uc⟩, R2, q, hq, rfl, rfl, HB⟩ := hrel
      have LB := Lib.hid (L6.out.next HB.out.1.bel)
      have HJ := Lib.hid hq
      obtain ⟨wo, rfl⟩ : ∃ wo : World, wo = wr := ⟨_, rfl⟩
      by_cases hlt : q < tn
      · have d0 : decide ((q : Int) < tn) = true := decide_eq_true (by omega)
        have HQ : Hid (q < R1.length) := Lib.hid (by have := HR1.out; omega)
        have GQ := Lib.hid (HB.out.2.get HQ.out)
        have hun : un = R2.length := HB.out.1.len
        have hqu : q < un := by have := GQ.out.2.2; omega
        have hu9 : un ≤ 512 := by have := HB.out.2.clo.len; omega
        have HU := Lib.hid hun
        obtain ⟨b, off, rfl, hbl', hcell⟩ := (Sh.row_of (v := ⟨ua, un, uc⟩) HB.out.1.own).2 (by show 0 < un; omega)
        have DQ := Lib.hid (hcell q hqu)
        have DN : Hid (b < wo.heap.size) := Lib.hid hbl'
        obtain ⟨y, hy⟩ : ∃ y, y = R2.getD q 0 := ⟨_, rfl⟩
        rw [← hy] at DQ
        have HY := Lib.hid hy
        have HYR : Hid (y ∈ R2) := Lib.hid (by rw [hy]; exact GQ.out.2.1)
        have h0 := Sh.used_E (HB.out.2.clo.sub y HYR.out).used
        have HO := Lib.hid (Sh.obj_of h0)
        have FI := Lib.hid (Tr.fld_in h0)
        have CHY := Lib.hid (fun W (hW : Hold W (⟨s, k, d, xs⟩ : Q2)) => CH.out W y hW)
        rw [HO.out.val, h0] at CHY
        generalize hgo : decide (wd d y / 2 % 2 = 1) = xo at CHY
        generalize hge : decide (wd d y / 4 % 2 = 1) = xe at CHY
        generalize hgb : wd d y / 1024 % 4194304 = xb at CHY
        generalize hgm : wd d y / 4294967296 = xm at CHY
        obtain ⟨N, hN⟩ : ∃ N : Nat, nOf (wd d y) = N := ⟨(nOf (wd d y)).toNat, by have := HO.out.parts; omega⟩
        have HNN := Lib.hid hN
        have hN63 : N ≤ 63 := by have := HO.out.parts; omega
        rw [hN] at CHY
        clear hcell hy hbl' h0 hgo hge hgb hgm hN hun
        go_upto_region 10 with fail
        refine Sh.region_gen fun a0 ha0 => ?_
        have G2 : a0.tmps[2]? = some (.pointer (some ⟨w.heap.size, 0, none⟩)) := by rw [ha0]; rfl
        have G7 : a0.tmps[7]? = some (.slice (some ⟨b, off, none⟩) un uc) := by rw [ha0]; rfl
        have G9 : a0.tmps[9]? = some (.int .i64 (q : Int)) := by rw [ha0]; rfl
        have TZ : a0.tmps.size = 206 := by rw [ha0]; rfl
        have HA := Lib.hid ha0
        clear ha0
        refine region_planK (by kernel_rfl) (by kernel_rfl) (by rw [TZ]; kernel_rfl) (fun (x : Nat) (i : Nat) => (match i with | 0 => (.agg #[.slice s.w.a s.w.n s.w.c, .slice s.p.a s.p.n s.p.c, .slice (s.u 0).a (s.u 0).n (s.u 0).c, .slice (s.u 1).a (s.u 1).n (s.u 1).c, .slice (s.u 2).a (s.u 2).n (s.u 2).c, .slice s.c.a s.c.n s.c.c]) | 1 => .slice (some ⟨b, off, none⟩) un uc | 2 => .int .i64 (q : Int) | 3 => .pointer (some ⟨b, off + q, none⟩) | 4 => .int .i64 y | 5 => .tuple #[.agg #[.bool true, .bool xo, .bool xe, .int .i64 (N : Int), .int .i64 xb, .int .i64 xm], .int .i64 0] | 6 => .tuple #[.agg #[.bool true, .bool xo, .bool xe, .int .i64 (N : Int), .int .i64 xb, .int .i64 xm], .int .i64 0] | 7 => .agg #[.bool true, .bool xo, .bool xe, .int .i64 (N : Int), .int .i64 xb, .int .i64 xm] | 8 => .int .i64 0 | 9 => .pointer (some ⟨x, 0, none⟩) | 10 => undef | 11 => .int .i64 0 | _ => undef : Value)) (fun _ => false) ?zeroA (fun x l W => Hr wo [.bool true, .bool xo, .bool xe, .int .i64 (N : Int), .int .i64 xb, .int .i64 xm] 9 10 x l W) 0 ?startA ?wantA ?skipA ?stepA ?doneA
        case zeroA => exact fun _ _ h => by cases h
        case startA => exact hr_start _ _ _ _ _
        case skipA => exact fun i l x W h _ => by cases h
        case wantA =>
          rintro i o9 l a9 x ho hP haft
          have hi : i < 12 := (Array.getElem?_eq_some_iff.1 ho).1
          rcases (show i = 0 ∨ i = 1 ∨ i = 2 ∨ i = 3 ∨ i = 4 ∨ i = 5 ∨ i = 6 ∨ i = 7 ∨ i = 8 ∨ i = 9 ∨ i = 10 ∨ i = 11 by omega) with rfl | rfl | rfl | rfl | rfl | rfl | rfl | rfl | rfl | rfl | rfl | rfl
          · obtain rfl := Option.some.inj ho
            rfl
          · obtain rfl := Option.some.inj ho
            rfl
          · obtain rfl := Option.some.inj ho
            rfl
          · obtain rfl := Option.some.inj ho
            rfl
          · obtain rfl := Option.some.inj ho
            rfl
          · obtain rfl := Option.some.inj ho
            rfl
          · obtain rfl := Option.some.inj ho
            rfl
          · obtain rfl := Option.some.inj ho
            rfl
          · obtain rfl := Option.some.inj ho
            rfl
          · obtain rfl := Option.some.inj ho
            rfl
          · obtain rfl := Option.some.inj ho
            rfl
          · obtain rfl := Option.some.inj ho
            rfl
        case stepA =>
          rintro i o9 l a9 x W9 ho hP hkp hcd hI hl hsk haft K hK
          have hi : i < 12 := (Array.getElem?_eq_some_iff.1 ho).1
          rcases (show i = 0 ∨ i = 1 ∨ i = 2 ∨ i = 3 ∨ i = 4 ∨ i = 5 ∨ i = 6 ∨ i = 7 ∨ i = 8 ∨ i = 9 ∨ i = 10 ∨ i = 11 by omega) with rfl | rfl | rfl | rfl | rfl | rfl | rfl | rfl | rfl | rfl | rfl | rfl
          · clear hsk
            obtain rfl := Option.some.inj ho
            have q2 := (hP.keep (j := 2) (by kernel_rfl)).trans G2
            exact Mu.p_load rfl (Mu.ev q2) (ldHb ((LB.out.next hI.bel).bx w.heap.size (hv s) (by simp))) (hK x _ (fun _ _ => rfl) (hI.pure (by decide : ¬ 0 = 9) (by decide : ¬ 0 = 10)))
          · clear hsk
            obtain rfl := Option.some.inj ho
            have q7 := (hP.keep (j := 7) (by kernel_rfl)).trans G7
            go_simp
            exact hK x _ (fun _ _ => rfl) (hI.pure (by decide : ¬ 1 = 9) (by decide : ¬ 1 = 10))
          · clear hsk
            obtain rfl := Option.some.inj ho
            have q9 := (hP.keep (j := 9) (by kernel_rfl)).trans G9
            go_simp
            exact hK x _ (fun _ _ => rfl) (hI.pure (by decide : ¬ 2 = 9) (by decide : ¬ 2 = 10))
          · clear hsk
            obtain rfl := Option.some.inj ho
            have e1 := hP.got 1 _ 87 rfl (haft ⟨1, .data⟩ (by simp) rfl) rfl
            have e2 := hP.got 2 _ 88 rfl (haft ⟨2, .data⟩ (by simp) rfl) rfl
            try dsimp only at e1 e2
            go_simp
            exact hK x _ (fun _ _ => rfl) (hI.pure (by decide : ¬ 3 = 9) (by decide : ¬ 3 = 10))
          · clear hsk
            obtain rfl := Option.some.inj ho
            have e3 := hP.got 3 _ 89 rfl (haft ⟨3, .data⟩ (by simp) rfl) rfl
            try dsimp only at e3
            have c9 := (Below.cell (p := ⟨b, off + q, none⟩) (hI.bel) DN.out).trans DQ.out
            have l9 : b < W9.heap.size := Nat.lt_of_lt_of_le DN.out (hI.bel).size
            go_simp
            exact hK x _ (fun _ _ => rfl) (hI.pure (by decide : ¬ 4 = 9) (by decide : ¬ 4 = 10))
          · clear hsk
            obtain rfl := Option.some.inj ho
            have e0 := hP.got 0 _ 86 rfl (haft ⟨0, .data⟩ (by simp) rfl) rfl
            have e4 := hP.got 4 _ 90 rfl (haft ⟨4, .data⟩ (by simp) rfl) rfl
            try dsimp only at e0 e4
            go_simp
            refine (CHY.out W9 ((LB.out.next hI.bel).at (⟨s, k, d, xs⟩ : Q2) (by simp))).mono ?_
            rintro e9 w9 ⟨rfl, hb9⟩
            exact hK x _ (fun _ _ => rfl) ((hI.next hb9).pure (by decide : ¬ 5 = 9) (by decide : ¬ 5 = 10))
          · clear hsk
            obtain rfl := Option.some.inj ho
            have e5 := hP.got 5 _ 91 rfl (haft ⟨5, .data⟩ (by simp) rfl) rfl
            try dsimp only at e5
            go_simp
            exact hK x _ (fun _ _ => rfl) (hI.pure (by decide : ¬ 6 = 9) (by decide : ¬ 6 = 10))
          · clear hsk
            obtain rfl := Option.some.inj ho
            have e6 := hP.got 6 _ 85 rfl (haft ⟨6, .data⟩ (by simp) rfl) rfl
            try dsimp only at e6
            go_simp
            exact hK x _ (fun _ _ => rfl) (hI.pure (by decide : ¬ 7 = 9) (by decide : ¬ 7 = 10))
          · clear hsk
            obtain rfl := Option.some.inj ho
            have e6 := hP.got 6 _ 85 rfl (haft ⟨6, .data⟩ (by simp) rfl) rfl
            try dsimp only at e6
            go_simp
            exact hK x _ (fun _ _ => rfl) (hI.pure (by decide : ¬ 8 = 9) (by decide : ¬ 8 = 10))
          · clear hsk
            obtain rfl := Option.some.inj ho
            go_simp
            refine hK W9.heap.size _ ?_ (hI.lay hl)
            intro j hj
            match j, hj with
            | 0, hj => rfl
            | 1, hj => rfl
            | 2, hj => rfl
            | 3, hj => rfl
            | 4, hj => rfl
            | 5, hj => rfl
            | 6, hj => rfl
            | 7, hj => rfl
            | 8, hj => rfl
            | 9, hj => rw [hl] at hj; cases hj
            | 10, hj => rfl
            | 11, hj => rfl
            | j + 12, _ => rfl
          · clear hsk
            obtain rfl := Option.some.inj ho
            have h9 := haft ⟨9, .data⟩ (by simp) rfl
            have e9 := hP.got 9 _ 10 rfl h9 rfl
            have e7 := hP.got 7 _ 92 rfl (haft ⟨7, .data⟩ (by simp) rfl) rfl
            try dsimp only at e9 e7
            exact Mu.p_store rfl (Mu.ev e9) (Mu.ev e7) (hI.run h9 hl rfl) (hK x _ (fun _ _ => rfl) (hI.put h9 hl rfl))
          · clear hsk
            obtain rfl := Option.some.inj ho
            have e8 := hP.got 8 _ 93 rfl (haft ⟨8, .data⟩ (by simp) rfl) rfl
            try dsimp only at e8
            go_simp
            exact hK x _ (fun _ _ => rfl) (hI.pure (by decide : ¬ 11 = 9) (by decide : ¬ 11 = 10))
        case doneA =>
          rintro l a9 x W9 hP hI hall
          have R9 := Lib.hid (hI.done (hall 9 (by decide)) (hall 10 (by decide)))
          obtain rfl := pl_full hP (by rw [TZ]; kernel_rfl) hall [some 86, some 87, some 88, some 89, some 90, some 91, some 85, some 92, some 93, some 10, none, some 11] (by rfl)
          clear hP hI hall TZ G2 G7 G9
          rw [HA.out]
          simp only [putD, Act.put, List.setIfInBounds_toArray, List.set_cons_succ, List.set_cons_zero]
          clear HA
          have BX := Lib.hid (And.intro R9.out.1 (And.intro R9.out.2.1 R9.out.2.2))
          clear R9
          obtain ⟨w8, rfl⟩ : ∃ w8 : World, w8 = W9 := ⟨_, rfl⟩
          obtain ⟨x1, rfl⟩ : ∃ x1 : Nat, x1 = x := ⟨_, rfl⟩
          have I3 : Hid (In3 vL6 w8 ⟨some ⟨b, off, none⟩, un, uc⟩ R2 x1 [.bool true, .bool xo, .bool xe, .int .i64 (N : Int), .int .i64 xb, .int .i64 xm]) := Lib.hid ⟨Sh.all_step HB.out.1 BX.out.1, BX.out.2.2, fun z hz => by cases hz; have := DN.out; have := BX.out.2.1; show ¬ b = x1; omega⟩
          have HY1 : Hid (y = R1.getD q 0) := Lib.hid (by rw [HY.out]; exact GQ.out.1)
          go_wp2
          go_loopw [7, 12] (fun r f wr => ∃ (t : Ls.Sl) (R : List Int) (j : Nat), 1 ≤ j ∧ j ≤ N + 1 ∧ r = .slice t.a t.n t.c ∧ f = .int .i64 j ∧ Hid (In3 vL6 wr t R x1 [.bool true, .bool xo, .bool xe, .int .i64 (N : Int), .int .i64 xb, .int .i64 xm] ∧ Grown s d k.mj k.ep R1 R q ∧ ShutF s d k.mj k.ep R y j)) (fun _ f _ => N + 1 - (intOf f).toNat)
          case atStart => exact ⟨⟨some ⟨b, off, none⟩, un, uc⟩, R2, 1, by omega, by omega, rfl, rfl, Lib.hid ⟨I3.out, HB.out.2, shut_one⟩⟩
          case round =>
            obtain ⟨⟨za, zn, zc⟩, R3, j, hj1, hj2, rfl, rfl, HD⟩ := hrel
            have LD := Lib.hid (L6.out.next HD.out.1.al.bel)
            have x3 := HD.out.1.bx.cel 3 (.int .i64 (N : Int)) rfl
            have xl := HD.out.1.bx.lt
            obtain ⟨wz, rfl⟩ : ∃ wz : World, wz = wr := ⟨_, rfl⟩
            clear BX I3 DQ DN
            by_cases hjn : j ≤ N
            · have d1 : decide ((j : Int) ≤ (N : Int)) = true := decide_eq_true (by omega)
              have G3 := Lib.hid (HD.out.2.1.get HQ.out)
              have hzn : zn = R3.length := HD.out.1.al.len
              have hqz : q < zn := by have := G3.out.2.2; omega
              have hz9 : zn ≤ 512 := by have := HD.out.2.1.clo.len; omega
              obtain ⟨b3, off3, rfl, hbl3, hcell3⟩ := (Sh.row_of (v := ⟨za, zn, zc⟩) HD.out.1.al.own).2 (by show 0 < zn; omega)
              have DQ := Lib.hid (hcell3 q hqz)
              rw [show R3.getD q 0 = y by rw [HY1.out]; exact G3.out.1] at DQ
              have DN : Hid (b3 < wz.heap.size) := Lib.hid hbl3
              obtain ⟨bw, ow, ea, hbw, hcw⟩ := (LD.out.at (⟨s, k, d, xs⟩ : Q2) (by simp)).h.words.2 (by show 0 < s.w.n; have := FI.out; omega)
              obtain ⟨i0, hi⟩ : ∃ i0 : Nat, y + (j : Int) - 16 = (i0 : Int) := ⟨(y + (j : Int) - 16).toNat, by have := FI.out; omega⟩
              have hiw : i0 < s.w.n := by have := FI.out; have := HNN.out; omega
              have DW := Lib.hid (hcw i0 hiw)
              have DL := Lib.hid (show bw < wz.heap.size from hbw)
              obtain ⟨v, hv⟩ : ∃ v, v = wd d (y + (j : Nat)) := ⟨_, rfl⟩
              rw [show ((⟨s, k, d, xs⟩ : Q2)).d.ws.getD i0 0 = v by rw [hv]; unfold wd; rw [show (y + (j : Nat) - 16).toNat = i0 by omega]] at DW
              obtain ⟨cv, hcv⟩ : ∃ c, c = colQ s d k.mj k.ep v := ⟨_, rfl⟩
              have HCV := Lib.hid (fun W (hW : Hold W (⟨s, k, d, xs⟩ : Q2)) => CC.out W v hW)
              rw [← hcv] at HCV
              have HV := Lib.hid hv
              have HC := Lib.hid hcv
              have w1 : IntKind.i64.wrap (y + (j : Int)) = y + (j : Int) := IntWalk.i64_in _ (by have := FI.out; have := HFI.out.wn; omega)
              have w2' : IntKind.i64.wrap (y + (j : Int) - 16) = (i0 : Int) := by rw [hi]; exact IntWalk.i64_in _ (by have := HFI.out.wn; omega)
              have EA := Lib.hid ea
              have hi0 : (i0 : Int) < (s.w.n : Int) := by omega
              have HZN := Lib.hid hzn
              have HJ3 := Lib.hid (And.intro hj1 hjn)
              clear hcell3 hbl3 hcw hbw hv hcv hi ea hzn hj1 hj2
              go_upto_region 14 with fail
              refine Sh.region_gen fun a0 ha0 => ?_
              have G2 : a0.tmps[2]? = some (.pointer (some ⟨w.heap.size, 0, none⟩)) := by rw [ha0]; rfl
              have G7 : a0.tmps[7]? = some (.slice (some ⟨b3, off3, none⟩) zn zc) := by rw [ha0]; rfl
              have G9 : a0.tmps[9]? = some (.int .i64 (q : Int)) := by rw [ha0]; rfl
              have G12 : a0.tmps[12]? = some (.int .i64 (j : Int)) := by rw [ha0]; rfl
              have TZ : a0.tmps.size = 206 := by rw [ha0]; rfl
              have HA := Lib.hid ha0
              clear ha0
              refine region_planK (by kernel_rfl) (by kernel_rfl) (by rw [TZ]; kernel_rfl) (fun (x : Unit) (i : Nat) => (match i with | 0 => .pointer (some ⟨w.heap.size, 0, none⟩) | 1 => .slice (some ⟨bw, ow, none⟩) s.w.n s.w.c | 2 => .slice (some ⟨b3, off3, none⟩) zn zc | 3 => .int .i64 (q : Int) | 4 => .pointer (some ⟨b3, off3 + q, none⟩) | 5 => .int .i64 y | 6 => .int .i64 (j : Int) | 7 => .int .i64 (y + (j : Int)) | 8 => .int .i64 (i0 : Int) | 9 => .pointer (some ⟨bw, ow + i0, none⟩) | 10 => .int .i64 v | 11 => .int .i64 v | _ => undef : Value)) (fun _ => false) ?zeroB (fun _ _ W => Below wz.heap.size wz W) () ?startB ?wantB ?skipB ?stepB ?doneB
              case zeroB => exact fun _ _ h => by cases h
              case startB => exact ⟨rfl, rfl, rfl, Nat.le_refl _, fun _ _ => rfl⟩
              case skipB => exact fun i l x W h _ => by cases h
              case wantB =>
                rintro i o9 l a9 x ho hP haft
                have hi : i < 12 := (Array.getElem?_eq_some_iff.1 ho).1
                rcases (show i = 0 ∨ i = 1 ∨ i = 2 ∨ i = 3 ∨ i = 4 ∨ i = 5 ∨ i = 6 ∨ i = 7 ∨ i = 8 ∨ i = 9 ∨ i = 10 ∨ i = 11 by omega) with rfl | rfl | rfl | rfl | rfl | rfl | rfl | rfl | rfl | rfl | rfl | rfl
                · obtain rfl := Option.some.inj ho
                  rfl
                · obtain rfl := Option.some.inj ho
                  rfl
                · obtain rfl := Option.some.inj ho
                  rfl
                · obtain rfl := Option.some.inj ho
                  rfl
                · obtain rfl := Option.some.inj ho
                  rfl
                · obtain rfl := Option.some.inj ho
                  rfl
                · obtain rfl := Option.some.inj ho
                  rfl
                · obtain rfl := Option.some.inj ho
                  rfl
                · obtain rfl := Option.some.inj ho
                  rfl
                · obtain rfl := Option.some.inj ho
                  rfl
                · obtain rfl := Option.some.inj ho
                  rfl
                · obtain rfl := Option.some.inj ho
                  rfl
              case stepB =>
                rintro i o9 l a9 x W9 ho hP hkp hcd hI hl hsk haft K hK
                have hi : i < 12 := (Array.getElem?_eq_some_iff.1 ho).1
                rcases (show i = 0 ∨ i = 1 ∨ i = 2 ∨ i = 3 ∨ i = 4 ∨ i = 5 ∨ i = 6 ∨ i = 7 ∨ i = 8 ∨ i = 9 ∨ i = 10 ∨ i = 11 by omega) with rfl | rfl | rfl | rfl | rfl | rfl | rfl | rfl | rfl | rfl | rfl | rfl
                · clear hsk
                  obtain rfl := Option.some.inj ho
                  have q2 := (hP.keep (j := 2) (by kernel_rfl)).trans G2
                  go_simp
                  exact hK () _ (fun _ _ => rfl) hI
                · clear hsk
                  obtain rfl := Option.some.inj ho
                  have e0 := hP.got 0 _ 100 rfl (haft ⟨0, .data⟩ (by simp) rfl) rfl
                  try dsimp only at e0
                  have z0 : W9.cell? ⟨w.heap.size, 0, none⟩ = some (.slice (some ⟨bw, ow, none⟩) s.w.n s.w.c) := by rw [← EA.out]; exact ((LD.out.next hI).bx w.heap.size (hv s) (by simp)).cel 0 _ rfl
                  go_simp
                  exact hK () _ (fun _ _ => rfl) hI
                · clear hsk
                  obtain rfl := Option.some.inj ho
                  have q7 := (hP.keep (j := 7) (by kernel_rfl)).trans G7
                  go_simp
                  exact hK () _ (fun _ _ => rfl) hI
                · clear hsk
                  obtain rfl := Option.some.inj ho
                  have q9 := (hP.keep (j := 9) (by kernel_rfl)).trans G9
                  go_simp
                  exact hK () _ (fun _ _ => rfl) hI
                · clear hsk
                  obtain rfl := Option.some.inj ho
                  have e2 := hP.got 2 _ 102 rfl (haft ⟨2, .data⟩ (by simp) rfl) rfl
                  have e3 := hP.got 3 _ 103 rfl (haft ⟨3, .data⟩ (by simp) rfl) rfl
                  try dsimp only at e2 e3
                  go_simp
                  exact hK () _ (fun _ _ => rfl) hI
                · clear hsk
                  obtain rfl := Option.some.inj ho
                  have e4 := hP.got 4 _ 104 rfl (haft ⟨4, .data⟩ (by simp) rfl) rfl
                  try dsimp only at e4
                  have c9 := (Below.cell (p := ⟨b3, off3 + q, none⟩) (hI) DN.out).trans DQ.out
                  have l9 : b3 < W9.heap.size := Nat.lt_of_lt_of_le DN.out (hI).size
                  go_simp
                  exact hK () _ (fun _ _ => rfl) hI
                · clear hsk
                  obtain rfl := Option.some.inj ho
                  have q12 := (hP.keep (j := 12) (by kernel_rfl)).trans G12
                  go_simp
                  exact hK () _ (fun _ _ => rfl) hI
                · clear hsk
                  obtain rfl := Option.some.inj ho
                  have e5 := hP.got 5 _ 105 rfl (haft ⟨5, .data⟩ (by simp) rfl) rfl
                  have e6 := hP.got 6 _ 106 rfl (haft ⟨6, .data⟩ (by simp) rfl) rfl
                  try dsimp only at e5 e6
                  go_simp
                  exact hK () _ (fun _ _ => rfl) hI
                · clear hsk
                  obtain rfl := Option.some.inj ho
                  have e7 := hP.got 7 _ 107 rfl (haft ⟨7, .data⟩ (by simp) rfl) rfl
                  try dsimp only at e7
                  go_simp
                  exact hK () _ (fun _ _ => rfl) hI
                · clear hsk
                  obtain rfl := Option.some.inj ho
                  have e1 := hP.got 1 _ 101 rfl (haft ⟨1, .data⟩ (by simp) rfl) rfl
                  have e8 := hP.got 8 _ 108 rfl (haft ⟨8, .data⟩ (by simp) rfl) rfl
                  try dsimp only at e1 e8
                  go_simp
                  exact hK () _ (fun _ _ => rfl) hI
                · clear hsk
                  obtain rfl := Option.some.inj ho
                  have e9 := hP.got 9 _ 109 rfl (haft ⟨9, .data⟩ (by simp) rfl) rfl
                  try dsimp only at e9
                  have z1 := (Below.cell (p := ⟨bw, ow + i0, none⟩) hI DL.out).trans DW.out
                  have z2 : bw < W9.heap.size := Nat.lt_of_lt_of_le DL.out hI.size
                  go_simp
                  exact hK () _ (fun _ _ => rfl) hI
                · clear hsk
                  obtain rfl := Option.some.inj ho
                  have e10 := hP.got 10 _ 110 rfl (haft ⟨10, .data⟩ (by simp) rfl) rfl
                  try dsimp only at e10
                  go_simp
                  exact hK () _ (fun _ _ => rfl) hI
              case doneB =>
                rintro l a9 x W9 hP hI hall
                have R9 := Lib.hid hI
                obtain rfl := pl_full hP (by rw [TZ]; kernel_rfl) hall [some 100, some 101, some 102, some 103, some 104, some 105, some 106, some 107, some 108, some 109, some 110, some 13] (by rfl)
                clear hP hI hall TZ G2 G7 G9 G12
                rw [HA.out]
                simp only [putD, Act.put, List.setIfInBounds_toArray, List.set_cons_succ, List.set_cons_zero]
                clear HA
                have IE := Lib.hid (HD.out.1.next R9.out)
                have LE := Lib.hid (LD.out.next R9.out)
                clear R9 x3 xl
                by_cases h1 : cv = 1
                · have f1 : decide (cv = 1) = true := decide_eq_true h1
                  have f2 : (cv == 1) = true := f1
                  have HW : Hid (Sh.isC s d k.mj k.ep v 1 = true) := Lib.hid ((col_is (by decide)).1 (HC.out.symm.trans h1))
                  clear h1
                  by_cases hm : v ∈ R3
                  · have CI := Lib.hid (fun W x VS (h : In3 vL6 W ⟨some ⟨b3, off3, none⟩, zn, zc⟩ R3 x VS) => in_any W W.heap.size (some ⟨b3, off3, none⟩) zn zc R3 v (by omega) (Sh.row_of (v := ⟨some ⟨b3, off3, none⟩, zn, zc⟩) h.al.own))
                    rw [show decide (v ∈ R3) = true from decide_eq_true hm] at CI
                    have HM := Lib.hid hm
                    clear hm
                    go_wp2_with (first
                  | (refine w_load (ldHb (LE.out.bx (w.heap.size) (hv s) (by simp))) rfl rfl rfl rfl ?_)
                  | (refine w_load (ldKb (LE.out.bx (w.heap.size + 1) (kv k) (by simp))) rfl rfl rfl rfl ?_)
                  | ((go_at_call 34); (with_reducible refine (HCV.out _ (LE.out.at _ (by simp))).mono ?_); rintro e9 wc ⟨rfl, hb9⟩; have LF := Lib.hid (LE.out.next hb9); have IF := Lib.hid (IE.out.next hb9); clear hb9)
                  | ((go_at_call 36); (with_reducible refine (CI.out _ _ _ IF.out).mono ?_); rintro e9 wd' ⟨rfl, hb9⟩; have IG := Lib.hid (IF.out.next hb9); clear hb9))
                    go_roundw
                    case rel => exact ⟨⟨some ⟨b3, off3, none⟩, zn, zc⟩, R3, j + 1, by omega, by have := HJ3.out; omega, rfl, by go_num, Lib.hid ⟨IG.out, HD.out.2.1, HD.out.2.2.next (by rw [← HV.out]; exact fun _ => HM.out)⟩⟩
                    case measure => have := HJ3.out; simp [intOf]; omega
                  · have CI := Lib.hid (fun W x VS (h : In3 vL6 W ⟨some ⟨b3, off3, none⟩, zn, zc⟩ R3 x VS) => in_any W W.heap.size (some ⟨b3, off3, none⟩) zn zc R3 v (by omega) (Sh.row_of (v := ⟨some ⟨b3, off3, none⟩, zn, zc⟩) h.al.own))
                    rw [show decide (v ∈ R3) = false from decide_eq_false hm] at CI
                    have HGR : Hid (Grown s d k.mj k.ep R1 (R3 ++ [v]) q) := Lib.hid (by
                      have hw := HW.out
                      rw [HV.out] at hw hm ⊢
                      exact HD.out.2.1.add (by have h1 := G3.out.2.1; rw [G3.out.1, ← HY1.out] at h1; exact h1) HJ3.out.1 (by rw [HNN.out]; have := HJ3.out.2; omega) hw hm)
                    have HSH : Hid (ShutF s d k.mj k.ep (R3 ++ [v]) y (j + 1)) := Lib.hid ((HD.out.2.2.more v).next (by rw [← HV.out]; exact fun _ => by simp))
                    clear hm
                    go_wp2_with (first
                  | (refine w_load (ldHb (LE.out.bx (w.heap.size) (hv s) (by simp))) rfl rfl rfl rfl ?_)
                  | (refine w_load (ldKb (LE.out.bx (w.heap.size + 1) (kv k) (by simp))) rfl rfl rfl rfl ?_)
                  | ((go_at_call 34); (with_reducible refine (HCV.out _ (LE.out.at _ (by simp))).mono ?_); rintro e9 wc ⟨rfl, hb9⟩; have LF := Lib.hid (LE.out.next hb9); have IF := Lib.hid (IE.out.next hb9); clear hb9)
                  | ((go_at_call 36); (with_reducible refine (CI.out _ _ _ IF.out).mono ?_); rintro e9 wd' ⟨rfl, hb9⟩; have IG := Lib.hid (IF.out.next hb9); clear hb9)
                  | (at_builtin; refine Ls.list_cat rfl _ _ rfl rfl rfl (IG.out.al.alloc _).own (Ls.row_lit1 _ _) (IG.out.al.alloc _).bel.size (by omega) ?_; intro p' cp' w6 hcat; have IH : Hid (In3 vL6 w6 ⟨p', zn + 1, cp'⟩ (R3 ++ [v]) x1 [.bool true, .bool xo, .bool xe, .int .i64 (N : Int), .int .i64 xb, .int .i64 xm]) := Lib.hid (IG.out.cat hcat); clear hcat))
                    go_roundw
                    case rel => exact ⟨⟨p', zn + 1, cp'⟩, R3 ++ [v], j + 1, by omega, by have := HJ3.out; omega, rfl, by go_num, Lib.hid ⟨IH.out, HGR.out, HSH.out⟩⟩
                    case measure => have := HJ3.out; simp [intOf]; omega
                · have f1 : decide (cv = 1) = false := decide_eq_false h1
                  have f2 : (cv == 1) = false := f1
                  have H1 := Lib.hid (show ¬ Sh.isC s d k.mj k.ep v 1 = true from fun h => h1 (HC.out.trans ((col_is (by decide)).2 h)))
                  clear h1
                  go_wp2_with (first
                  | (refine w_load (ldHb (LE.out.bx (w.heap.size) (hv s) (by simp))) rfl rfl rfl rfl ?_)
                  | (refine w_load (ldKb (LE.out.bx (w.heap.size + 1) (kv k) (by simp))) rfl rfl rfl rfl ?_)
                  | ((go_at_call 34); (with_reducible refine (HCV.out _ (LE.out.at _ (by simp))).mono ?_); rintro e9 wc ⟨rfl, hb9⟩; have LF := Lib.hid (LE.out.next hb9); have IF := Lib.hid (IE.out.next hb9); clear hb9)
                  | ((go_at_call 36); (with_reducible refine (CI.out _ _ _ IF.out).mono ?_); rintro e9 wd' ⟨rfl, hb9⟩; have IG := Lib.hid (IF.out.next hb9); clear hb9))
                  go_roundw
                  case rel => exact ⟨⟨some ⟨b3, off3, none⟩, zn, zc⟩, R3, j + 1, by omega, by have := HJ3.out; omega, rfl, by go_num, Lib.hid ⟨IF.out, HD.out.2.1, HD.out.2.2.next (by rw [← HV.out]; exact fun h => absurd h H1.out)⟩⟩
                  case measure => have := HJ3.out; simp [intOf]; omega
            · obtain rfl : j = N + 1 := by omega
              have d1 : decide (((N + 1 : Nat) : Int) ≤ (N : Int)) = false := decide_eq_false (by omega)
              have HE : Hid (Grown s d k.mj k.ep R1 R3 (q + 1)) := Lib.hid (HD.out.2.1.next (by rw [← HY1.out, HNN.out]; exact HD.out.2.2))
              go_wp2
              go_roundw
              case rel => exact ⟨⟨za, zn, zc⟩, R3, q + 1, by omega, rfl, by go_num, Lib.hid ⟨HD.out.1.al, HE.out⟩⟩
              case measure => simp [intOf]; omega
      · obtain rfl : q = tn := by have := HJ.out; omega
        have d0 : decide ((q : Int) < q) = false := by simp
        have hle : R1.length ≤ R2.length := HB.out.2.le
        have hun : un = R2.length := HB.out.1.len
        have hu9 : un ≤ 512 := by have := HB.out.2.clo.len; omega
        have HLE : Hid (q ≤ un) := Lib.hid (by have := HR1.out; omega)
        by_cases hq2 : un = q
        · have f1 : decide ((un : Int) = (q : Int)) = true := decide_eq_true (by omega)
          have f2 : ((un : Int) == (q : Int)) = true := f1
          have f3 : (un == q) = true := by simp [hq2]
          have RE : Hid (∀ z, z ∈ R2 ↔ Rch s d k.mj k.ep z) := Lib.hid (by
            have hg := HB.out.2
            rw [HR1.out] at hg
            exact hg.done (by have := HR1.out; omega))
          have HZO := Lib.hid (LB.out.over HZ.out)
          clear hq2 hle hun
          go_upto_region 19 with (first
            | (refine w_load (ldHb (LB.out.bx (w.heap.size) (hv s) (by simp))) rfl rfl rfl rfl ?_)
            | fail)
          obtain ⟨WA, hWA⟩ : ∃ WA, WA = wo.alloc (.cells #[.slice s.w.a s.w.n s.w.c, .slice s.p.a s.p.n s.p.c, .slice (s.u 0).a (s.u 0).n (s.u 0).c, .slice (s.u 1).a (s.u 1).n (s.u 1).c, .slice (s.u 2).a (s.u 2).n (s.u 2).c, .slice s.c.a s.c.n s.c.c] 28) := ⟨_, rfl⟩
          have LA := Lib.hid (LB.out.next (show Below wo.heap.size wo WA by rw [hWA]; exact (Below.refl _ _).alloc (Nat.le_refl _) _))
          rw [← hWA]
          go_upto_region 20 with (first
            | (refine w_load (ldKb (LA.out.bx (w.heap.size + 1) (kv k) (by simp))) rfl rfl rfl rfl ?_)
            | fail)
          obtain ⟨WB, hW2⟩ : ∃ WB, WB = (wo.alloc (.cells #[.slice s.w.a s.w.n s.w.c, .slice s.p.a s.p.n s.p.c, .slice (s.u 0).a (s.u 0).n (s.u 0).c, .slice (s.u 1).a (s.u 1).n (s.u 1).c, .slice (s.u 2).a (s.u 2).n (s.u 2).c, .slice s.c.a s.c.n s.c.c] 28)).alloc (.cells #[.int .i64 k.ph, .int .i64 k.ep, .bool k.mj, .slice k.wk.a k.wk.n k.wk.c, .bool k.ov, .int .i64 k.pa, .int .i64 k.pf, .int .i64 k.ps, .int .i64 k.pc, .bool k.me] 30) := ⟨_, rfl⟩
          rw [← hW2]
          have hbb : Below wo.heap.size wo WB := by rw [hW2]; exact ((Below.refl _ _).alloc (Nat.le_refl _) _).alloc (by simp) _
          have LC := Lib.hid (LB.out.next hbb)
          have AL := Lib.hid (Sh.all_step HB.out.1 hbb)
          have LQ := Lib.hid (((lq_none wo).two (s := s) (k := k) hW2).held (n := (⟨s, k, d, xs⟩ : Q2)) (LC.out.at (⟨s, k, d, xs⟩ : Q2) (by simp)))
          have SA : Hid (Wn 2 wo WB (p4 wo.heap.size (wo.heap.size + 1) (wo.heap.size + 2) (wo.heap.size + 3)) (c4 (hv s) (kv k) [] []) [(⟨s, k, d, xs⟩ : Q2)]) := Lib.hid (Lq.wn2 (n := (⟨s, k, d, xs⟩ : Q2)) LQ.out (by simp) (by simp) (LB.out.at (⟨s, k, d, xs⟩ : Q2) (by simp)))
          have r0 := (LC.out.bx w.heap.size (hv s) (by simp)).cel 0 (.slice s.w.a s.w.n s.w.c) rfl
          have w1 := WF1.out
          have w2' := WF2.out
          have w3' := WF3.out
          have w4' := WF4.out
          clear hWA hW2 hbb LA LQ
          go_upto_region 22 with fail
          clear r0 w1 w2' w3' w4' f1 f2 f3
          go_loopw [17] (fun i wr => ∃ (j : Nat) (n : Q2), j ≤ n0 ∧ i = .int .i64 j ∧ Hid (Wn 2 wo wr (p4 wo.heap.size (wo.heap.size + 1) (wo.heap.size + 2) (wo.heap.size + 3)) (c4 (hv n.s) (kv n.k) [] []) [n] ∧ RchE s d k.mj k.ep (left s d k xs) j n)) (fun i _ => n0 - (intOf i).toNat)
          case atStart => exact ⟨0, (⟨s, k, d, xs⟩ : Q2), by omega, rfl, Lib.hid ⟨SA.out, HS.out⟩⟩
          case round =>
            obtain ⟨j, n, hj, rfl, HR⟩ := hrel
            have R := Lib.hid HR.out.1
            have A := Lib.hid HR.out.2
            clear HR SA HS
            have hx9 : n.xs.length ≤ 999000 := by have := A.out.x; have := N9.out; omega
            have q0 := (show Box _ (wo.heap.size + 1) (kv n.k) from R.out.box 1 (by decide)).cel 0 (.int .i64 n.k.ph) rfl
            by_cases h5 : n.k.ph = 5
            · have hlt := A.out.lt h5 HL.out
              have d1 : decide ((j : Int) < (n0 : Int)) = true := decide_eq_true hlt
              have c1 : decide (n.k.ph = 5) = true := decide_eq_true h5
              have c2 : (n.k.ph == 5) = true := c1
              have CI := Lib.hid (fun W (hW : Hold W n) (hz : Cl.Sz W) => step_any n W ⟨hW, hz, A.out.fine, hx9⟩)
              have wi : IntKind.i64.wrap ((j : Int) + 1) = (j : Int) + 1 := IntWalk.i64_in _ (by have := N9.out; omega)
              have H5 := Lib.hid h5
              have HJ4 : Hid (j < n0) := Lib.hid (by omega)
              clear h5 hlt
              go_upto_region 24 with fail
              clear q0 c1 c2
              go_wp2_with (first
                | (refine w_load (ldHb (show Box _ (wo.heap.size) (hv n.s) from R.out.box 0 (by decide))) rfl rfl rfl rfl ?_)
                | (refine w_load (ldKb (show Box _ (wo.heap.size + 1) (kv n.k) from R.out.box 1 (by decide))) rfl rfl rfl rfl ?_)
                | ((go_at_call 27); (with_reducible refine (CI.out _ (R.out.at n (List.mem_singleton.2 rfl)) (R.out.over HZO.out)).mono ?_); rintro e9 w9 ⟨y, rfl, hl9, hd9, hx9', hk9, hh9, hn9, hb9⟩; have B := Lib.hid (A.out.next H5.out hl9 hd9 hx9' hk9); have T := Lib.hid (R.out.swap hh9 (fun i hi => hn9.off (R.out.lt hi)) hb9); clear hl9 hd9 hx9' hk9 hh9 hn9 hb9)
                | (refine w_putH T.out 0 (by decide) y.s (c' := c4 (hv y.s) (kv n.k) [] []) rfl (all2 ⟨rfl, rfl⟩) rfl rfl rfl rfl rfl ?_; intro WB h6; have T2 := Lib.hid h6; clear h6)
                | (refine w_putK T2.out 1 (by decide) y.k (c' := c4 (hv y.s) (kv y.k) [] []) rfl (all2 ⟨rfl, rfl⟩) rfl rfl rfl rfl rfl ?_; intro WC h7; have T3 := Lib.hid h7; clear h7))
              go_roundw
              case rel => exact ⟨j + 1, y, by have := HJ4.out; omega, by have := N9.out; have := HJ4.out; go_num, Lib.hid ⟨T3.out, B.out⟩⟩
              case measure => have := HJ4.out; simp [intOf]; omega
            · have E6 := Lib.hid (A.out.out h5)
              have c1 : decide (n.k.ph = 5) = false := decide_eq_false h5
              have c2 : (n.k.ph == 5) = false := c1
              clear h5
              by_cases hjn : j < n0
              · skip
                have LR := Lib.hid (LB.out.next R.out.bel)
                have ALR := Lib.hid (Sh.all_step HB.out.1 R.out.bel)
                have ph6 : decide (n.k.ph = 6) = true := decide_eq_true E6.out.1
                have PH6 := Lib.hid ph6
                have CN := Lib.hid (fun W y (hW : Hold W n) => rcol_any n.s n.d n.k y W hW.h A.out.fine)
                clear ph6
                go_upto_region 25 with fail
                clear q0 c1 c2
                go_upto_region 26 with (first
                  | (refine w_load (ldHb (LR.out.bx (w.heap.size) (hv s) (by simp))) rfl rfl rfl rfl ?_)
                  | ((go_at_call 37); (with_reducible refine (CU.out _ (LR.out.at _ (by simp)) (LR.out.over HZ.out)).mono ?_); rintro e9 wu ⟨⟨va2, vn2, vc2⟩, rfl, ho, hb2⟩; have OU := Lib.hid ho; have RU := Lib.hid (R.out.next hb2); have LU := Lib.hid (LR.out.next hb2); have AU := Lib.hid (Sh.all_step ALR.out hb2); clear ho hb2))
                obtain ⟨G, hGe⟩ : ∃ G, G = usedL s d := ⟨_, rfl⟩
                rw [← hGe] at OU
                have hvn2 : vn2 = G.length := by have h1 := OU.out.1; simpa using h1.symm
                have hG9 : vn2 ≤ 512 := by rw [hvn2, hGe]; exact Nat.le_trans (used_len s d) (allS_len d.f s.p.n)
                have RW := Lib.hid (Sh.row_of (v := ⟨va2, vn2, vc2⟩) OU.out)
                clear OU hGe hvn2 LR ALR
                go_wp2
                go_loopg [19] vn2 (fun g i wr => ∃ q5 : Nat, q5 + g = vn2 ∧ i = .int .i64 q5 ∧ Hid (Below wu.heap.size wu wr))
                case atStart => exact ⟨0, by omega, rfl, Lib.hid (Below.refl _ _)⟩
                case round =>
                  obtain ⟨q5, hq5, rfl, H5⟩ := hrel
                  obtain ⟨w5, rfl⟩ : ∃ w5 : World, w5 = wr := ⟨_, rfl⟩
                  obtain ⟨g5, rfl⟩ : ∃ g5 : Nat, g5 = gk := ⟨_, rfl⟩
                  have HQ5 := Lib.hid hq5
                  have hq51 : q5 ≤ vn2 := by omega
                  have LV := Lib.hid (LU.out.next H5.out)
                  have RV := Lib.hid (RU.out.next H5.out)
                  have AV := Lib.hid (Sh.all_step AU.out H5.out)
                  clear hq5
                  by_cases hlt5 : q5 < vn2
                  · have d0 : decide ((q5 : Int) < vn2) = true := decide_eq_true (by omega)
                    obtain ⟨b5, off5, rfl, hbl', hcell⟩ := (Row.below RW.out H5.out).2 (by omega)
                    have DQ := Lib.hid (hcell q5 hlt5)
                    have DN : Hid (b5 < w5.heap.size) := Lib.hid (by have := H5.out.size; have h1 : b5 < wu.heap.size := hbl'; omega)
                    obtain ⟨y, hy⟩ : ∃ y, y = G.getD q5 0 := ⟨_, rfl⟩
                    rw [← hy] at DQ
                    obtain ⟨cw, hcw⟩ : ∃ c, c = colQ s d k.mj k.ep y := ⟨_, rfl⟩
                    obtain ⟨cn, hcn⟩ : ∃ c, c = colQ n.s n.d n.k.mj n.k.ep y := ⟨_, rfl⟩
                    have C1 := Lib.hid (fun W (hW : Hold W (⟨s, k, d, xs⟩ : Q2)) => CC.out W y hW)
                    have C2 := Lib.hid (fun W (hW : Hold W n) => CN.out W y hW)
                    rw [← hcw] at C1
                    rw [← hcn] at C2
                    have HCW := Lib.hid (And.intro hcw hcn)
                    clear hcell hbl' hy hcw hcn
                    go_upto_region 29 with fail
                    refine Sh.region_gen fun a0 ha0 => ?_
                    have G2 : a0.tmps[2]? = some (.pointer (some ⟨w.heap.size, 0, none⟩)) := by rw [ha0]; rfl
                    have G3 : a0.tmps[3]? = some (.pointer (some ⟨w.heap.size + 1, 0, none⟩)) := by rw [ha0]; rfl
                    have G18 : a0.tmps[18]? = some (.slice (some ⟨b5, off5, none⟩) vn2 vc2) := by rw [ha0]; rfl
                    have G19 : a0.tmps[19]? = some (.int .i64 (q5 : Int)) := by rw [ha0]; rfl
                    have TZ : a0.tmps.size = 206 := by rw [ha0]; rfl
                    have HA := Lib.hid ha0
                    clear ha0
                    refine region_planK (by kernel_rfl) (by kernel_rfl) (by rw [TZ]; kernel_rfl) (fun (x : Unit) (i : Nat) => (match i with | 0 => (.agg #[.slice s.w.a s.w.n s.w.c, .slice s.p.a s.p.n s.p.c, .slice (s.u 0).a (s.u 0).n (s.u 0).c, .slice (s.u 1).a (s.u 1).n (s.u 1).c, .slice (s.u 2).a (s.u 2).n (s.u 2).c, .slice s.c.a s.c.n s.c.c]) | 1 => (.agg #[.int .i64 k.ph, .int .i64 k.ep, .bool k.mj, .slice k.wk.a k.wk.n k.wk.c, .bool k.ov, .int .i64 k.pa, .int .i64 k.pf, .int .i64 k.ps, .int .i64 k.pc, .bool k.me]) | 2 => .slice (some ⟨b5, off5, none⟩) vn2 vc2 | 3 => .int .i64 (q5 : Int) | 4 => .pointer (some ⟨b5, off5 + q5, none⟩) | 5 => .int .i64 y | 6 => .int .i64 cw | 7 => .int .i64 cw | _ => undef : Value)) (fun _ => false) ?zeroP1 (fun _ _ W => Below w5.heap.size w5 W) () ?startP1 ?wantP1 ?skipP1 ?stepP1 ?doneP1
                    case zeroP1 => exact fun _ _ h => by cases h
                    case startP1 => exact ⟨rfl, rfl, rfl, Nat.le_refl _, fun _ _ => rfl⟩
                    case skipP1 => exact fun i l x W h _ => by cases h
                    case wantP1 =>
                      rintro i o9 l a9 x ho hP haft
                      have hi : i < 8 := (Array.getElem?_eq_some_iff.1 ho).1
                      rcases (show i = 0 ∨ i = 1 ∨ i = 2 ∨ i = 3 ∨ i = 4 ∨ i = 5 ∨ i = 6 ∨ i = 7 by omega) with rfl | rfl | rfl | rfl | rfl | rfl | rfl | rfl
                      · obtain rfl := Option.some.inj ho
                        rfl
                      · obtain rfl := Option.some.inj ho
                        rfl
                      · obtain rfl := Option.some.inj ho
                        rfl
                      · obtain rfl := Option.some.inj ho
                        rfl
                      · obtain rfl := Option.some.inj ho
                        rfl
                      · obtain rfl := Option.some.inj ho
                        rfl
                      · obtain rfl := Option.some.inj ho
                        rfl
                      · obtain rfl := Option.some.inj ho
                        rfl
                    case stepP1 =>
                      rintro i o9 l a9 x W9 ho hP hkp hcd hI hl hsk haft K hK
                      have hi : i < 8 := (Array.getElem?_eq_some_iff.1 ho).1
                      rcases (show i = 0 ∨ i = 1 ∨ i = 2 ∨ i = 3 ∨ i = 4 ∨ i = 5 ∨ i = 6 ∨ i = 7 by omega) with rfl | rfl | rfl | rfl | rfl | rfl | rfl | rfl
                      · clear hsk
                        obtain rfl := Option.some.inj ho
                        have q2 := (hP.keep (j := 2) (by kernel_rfl)).trans G2
                        exact Mu.p_load rfl (Mu.ev q2) (ldHb ((LV.out.next hI).bx w.heap.size (hv s) (by simp))) (hK () _ (fun _ _ => rfl) hI)
                      · clear hsk
                        obtain rfl := Option.some.inj ho
                        have q3 := (hP.keep (j := 3) (by kernel_rfl)).trans G3
                        exact Mu.p_load rfl (Mu.ev q3) (ldKb ((LV.out.next hI).bx (w.heap.size + 1) (kv k) (by simp))) (hK () _ (fun _ _ => rfl) hI)
                      · clear hsk
                        obtain rfl := Option.some.inj ho
                        have q18 := (hP.keep (j := 18) (by kernel_rfl)).trans G18
                        go_simp
                        exact hK () _ (fun _ _ => rfl) hI
                      · clear hsk
                        obtain rfl := Option.some.inj ho
                        have q19 := (hP.keep (j := 19) (by kernel_rfl)).trans G19
                        go_simp
                        exact hK () _ (fun _ _ => rfl) hI
                      · clear hsk
                        obtain rfl := Option.some.inj ho
                        have e2 := hP.got 2 _ 167 rfl (haft ⟨2, .data⟩ (by simp) rfl) rfl
                        have e3 := hP.got 3 _ 168 rfl (haft ⟨3, .data⟩ (by simp) rfl) rfl
                        try dsimp only at e2 e3
                        go_simp
                        exact hK () _ (fun _ _ => rfl) hI
                      · clear hsk
                        obtain rfl := Option.some.inj ho
                        have e4 := hP.got 4 _ 169 rfl (haft ⟨4, .data⟩ (by simp) rfl) rfl
                        try dsimp only at e4
                        have c9 := (Below.cell (p := ⟨b5, off5 + q5, none⟩) (hI) DN.out).trans DQ.out
                        have l9 : b5 < W9.heap.size := Nat.lt_of_lt_of_le DN.out (hI).size
                        go_simp
                        exact hK () _ (fun _ _ => rfl) hI
                      · clear hsk
                        obtain rfl := Option.some.inj ho
                        have e0 := hP.got 0 _ 165 rfl (haft ⟨0, .data⟩ (by simp) rfl) rfl
                        have e1 := hP.got 1 _ 166 rfl (haft ⟨1, .data⟩ (by simp) rfl) rfl
                        have e5 := hP.got 5 _ 170 rfl (haft ⟨5, .data⟩ (by simp) rfl) rfl
                        try dsimp only at e0 e1 e5
                        go_simp
                        refine (C1.out W9 ((LV.out.next hI).at (⟨s, k, d, xs⟩ : Q2) (by simp))).mono ?_
                        rintro e9 w9 ⟨rfl, hb9⟩
                        exact hK () _ (fun _ _ => rfl) (hI.trans (hb9.mono hI.size))
                      · clear hsk
                        obtain rfl := Option.some.inj ho
                        have e6 := hP.got 6 _ 171 rfl (haft ⟨6, .data⟩ (by simp) rfl) rfl
                        try dsimp only at e6
                        go_simp
                        exact hK () _ (fun _ _ => rfl) hI
                    case doneP1 =>
                      rintro l a9 x W9 hP hI hall
                      have R9 := Lib.hid hI
                      obtain rfl := pl_full hP (by rw [TZ]; kernel_rfl) hall [some 165, some 166, some 167, some 168, some 169, some 170, some 171, some 20] (by rfl)
                      clear hP hI hall TZ G2 G3 G18 G19
                      rw [HA.out]
                      simp only [putD, Act.put, List.setIfInBounds_toArray, List.set_cons_succ, List.set_cons_zero]
                      clear HA
                      have R1' : Hid (Below w5.heap.size w5 W9) := R9
                      clear R9
                      obtain ⟨w6, rfl⟩ : ∃ w6 : World, w6 = W9 := ⟨_, rfl⟩
                      have DQ6 := Lib.hid ((Below.cell (p := ⟨b5, off5 + q5, none⟩) R1'.out DN.out).trans DQ.out)
                      have DN6 : Hid (b5 < w6.heap.size) := Lib.hid (Nat.lt_of_lt_of_le DN.out R1'.out.size)
                      have RV6 := Lib.hid (RV.out.next R1'.out)
                      go_upto_region 30 with fail
                      refine Sh.region_gen fun a0 ha0 => ?_
                      have G14 : a0.tmps[14]? = some (.pointer (some ⟨wo.heap.size, 0, none⟩)) := by rw [ha0]; rfl
                      have G15 : a0.tmps[15]? = some (.pointer (some ⟨wo.heap.size + 1, 0, none⟩)) := by rw [ha0]; rfl
                      have G18 : a0.tmps[18]? = some (.slice (some ⟨b5, off5, none⟩) vn2 vc2) := by rw [ha0]; rfl
                      have G19 : a0.tmps[19]? = some (.int .i64 (q5 : Int)) := by rw [ha0]; rfl
                      have TZ : a0.tmps.size = 206 := by rw [ha0]; rfl
                      have HA := Lib.hid ha0
                      clear ha0
                      refine region_planK (by kernel_rfl) (by kernel_rfl) (by rw [TZ]; kernel_rfl) (fun (x : Unit) (i : Nat) => (match i with | 0 => (.agg #[.slice n.s.w.a n.s.w.n n.s.w.c, .slice n.s.p.a n.s.p.n n.s.p.c, .slice (n.s.u 0).a (n.s.u 0).n (n.s.u 0).c, .slice (n.s.u 1).a (n.s.u 1).n (n.s.u 1).c, .slice (n.s.u 2).a (n.s.u 2).n (n.s.u 2).c, .slice n.s.c.a n.s.c.n n.s.c.c]) | 1 => (.agg #[.int .i64 n.k.ph, .int .i64 n.k.ep, .bool n.k.mj, .slice n.k.wk.a n.k.wk.n n.k.wk.c, .bool n.k.ov, .int .i64 n.k.pa, .int .i64 n.k.pf, .int .i64 n.k.ps, .int .i64 n.k.pc, .bool n.k.me]) | 2 => .slice (some ⟨b5, off5, none⟩) vn2 vc2 | 3 => .int .i64 (q5 : Int) | 4 => .pointer (some ⟨b5, off5 + q5, none⟩) | 5 => .int .i64 y | 6 => .int .i64 cn | 7 => .int .i64 cn | _ => undef : Value)) (fun _ => false) ?zeroQ1 (fun _ _ W => Below w6.heap.size w6 W) () ?startQ1 ?wantQ1 ?skipQ1 ?stepQ1 ?doneQ1
                      case zeroQ1 => exact fun _ _ h => by cases h
                      case startQ1 => exact ⟨rfl, rfl, rfl, Nat.le_refl _, fun _ _ => rfl⟩
                      case skipQ1 => exact fun i l x W h _ => by cases h
                      case wantQ1 =>
                        rintro i o9 l a9 x ho hP haft
                        have hi : i < 8 := (Array.getElem?_eq_some_iff.1 ho).1
                        rcases (show i = 0 ∨ i = 1 ∨ i = 2 ∨ i = 3 ∨ i = 4 ∨ i = 5 ∨ i = 6 ∨ i = 7 by omega) with rfl | rfl | rfl | rfl | rfl | rfl | rfl | rfl
                        · obtain rfl := Option.some.inj ho
                          rfl
                        · obtain rfl := Option.some.inj ho
                          rfl
                        · obtain rfl := Option.some.inj ho
                          rfl
                        · obtain rfl := Option.some.inj ho
                          rfl
                        · obtain rfl := Option.some.inj ho
                          rfl
                        · obtain rfl := Option.some.inj ho
                          rfl
                        · obtain rfl := Option.some.inj ho
                          rfl
                        · obtain rfl := Option.some.inj ho
                          rfl
                      case stepQ1 =>
                        rintro i o9 l a9 x W9 ho hP hkp hcd hI hl hsk haft K hK
                        have hi : i < 8 := (Array.getElem?_eq_some_iff.1 ho).1
                        rcases (show i = 0 ∨ i = 1 ∨ i = 2 ∨ i = 3 ∨ i = 4 ∨ i = 5 ∨ i = 6 ∨ i = 7 by omega) with rfl | rfl | rfl | rfl | rfl | rfl | rfl | rfl
                        · clear hsk
                          obtain rfl := Option.some.inj ho
                          have q14 := (hP.keep (j := 14) (by kernel_rfl)).trans G14
                          exact Mu.p_load rfl (Mu.ev q14) (ldHb (show Box W9 wo.heap.size (hv n.s) from (RV6.out.next hI).box 0 (by decide))) (hK () _ (fun _ _ => rfl) hI)
                        · clear hsk
                          obtain rfl := Option.some.inj ho
                          have q15 := (hP.keep (j := 15) (by kernel_rfl)).trans G15
                          exact Mu.p_load rfl (Mu.ev q15) (ldKb (show Box W9 (wo.heap.size + 1) (kv n.k) from (RV6.out.next hI).box 1 (by decide))) (hK () _ (fun _ _ => rfl) hI)
                        · clear hsk
                          obtain rfl := Option.some.inj ho
                          have q18 := (hP.keep (j := 18) (by kernel_rfl)).trans G18
                          go_simp
                          exact hK () _ (fun _ _ => rfl) hI
                        · clear hsk
                          obtain rfl := Option.some.inj ho
                          have q19 := (hP.keep (j := 19) (by kernel_rfl)).trans G19
                          go_simp
                          exact hK () _ (fun _ _ => rfl) hI
                        · clear hsk
                          obtain rfl := Option.some.inj ho
                          have e2 := hP.got 2 _ 174 rfl (haft ⟨2, .data⟩ (by simp) rfl) rfl
                          have e3 := hP.got 3 _ 175 rfl (haft ⟨3, .data⟩ (by simp) rfl) rfl
                          try dsimp only at e2 e3
                          go_simp
                          exact hK () _ (fun _ _ => rfl) hI
                        · clear hsk
                          obtain rfl := Option.some.inj ho
                          have e4 := hP.got 4 _ 176 rfl (haft ⟨4, .data⟩ (by simp) rfl) rfl
                          try dsimp only at e4
                          have c9 := (Below.cell (p := ⟨b5, off5 + q5, none⟩) (hI) DN6.out).trans DQ6.out
                          have l9 : b5 < W9.heap.size := Nat.lt_of_lt_of_le DN6.out (hI).size
                          go_simp
                          exact hK () _ (fun _ _ => rfl) hI
                        · clear hsk
                          obtain rfl := Option.some.inj ho
                          have e0 := hP.got 0 _ 172 rfl (haft ⟨0, .data⟩ (by simp) rfl) rfl
                          have e1 := hP.got 1 _ 173 rfl (haft ⟨1, .data⟩ (by simp) rfl) rfl
                          have e5 := hP.got 5 _ 177 rfl (haft ⟨5, .data⟩ (by simp) rfl) rfl
                          try dsimp only at e0 e1 e5
                          go_simp
                          refine (C2.out W9 ((RV6.out.next hI).at n (by simp))).mono ?_
                          rintro e9 w9 ⟨rfl, hb9⟩
                          exact hK () _ (fun _ _ => rfl) (hI.trans (hb9.mono hI.size))
                        · clear hsk
                          obtain rfl := Option.some.inj ho
                          have e6 := hP.got 6 _ 178 rfl (haft ⟨6, .data⟩ (by simp) rfl) rfl
                          try dsimp only at e6
                          go_simp
                          exact hK () _ (fun _ _ => rfl) hI
                      case doneQ1 =>
                        rintro l a9 x W9 hP hI hall
                        have R9 := Lib.hid hI
                        obtain rfl := pl_full hP (by rw [TZ]; kernel_rfl) hall [some 172, some 173, some 174, some 175, some 176, some 177, some 178, some 21] (by rfl)
                        clear hP hI hall TZ G14 G15 G18 G19
                        rw [HA.out]
                        simp only [putD, Act.put, List.setIfInBounds_toArray, List.set_cons_succ, List.set_cons_zero]
                        clear HA
                        have BW : Hid (Below w6.heap.size w6 W9) := R9
                        have AW := Lib.hid (Sh.all_step (Sh.all_step AV.out R1'.out) BW.out)
                        have c9 := (Below.cell (p := ⟨b5, off5 + q5, none⟩) BW.out DN6.out).trans DQ6.out
                        have l9 : b5 < W9.heap.size := Nat.lt_of_lt_of_le DN6.out BW.out.size
                        have CI := Lib.hid (fun W (h : Ls.Alling vL6 W ⟨ua, un, uc⟩ R2) => in_any W W.heap.size ua un uc R2 y (by omega) (Sh.row_of (v := ⟨ua, un, uc⟩) h.own))
                        clear R9
                        by_cases hm : y ∈ R2
                        · rw [show decide (y ∈ R2) = true from decide_eq_true hm] at CI
                          have h3 : cn = 3 := HCW.out.2.trans (E6.out.2.1 y ((RE.out y).1 hm))
                          have f1 : decide (cn = 3) = true := decide_eq_true h3
                          have f2 : (cn == 3) = true := f1
                          have f3 : (cn != 3) = false := by rw [bne, f2]; rfl
                          clear h3 hm
                          go_wp2_with (first
                            | ((go_at_call 36); (with_reducible refine (CI.out _ AW.out).mono ?_); rintro e9 wi ⟨rfl, hb9⟩; have AW := Lib.hid (Sh.all_step AW.out hb9); have BW := Lib.hid (BW.out.trans (hb9.mono BW.out.size)); have c9 := (Below.cell (p := ⟨b5, off5 + q5, none⟩) BW.out DN6.out).trans DQ6.out; have l9 : b5 < wi.heap.size := Nat.lt_of_lt_of_le DN6.out BW.out.size; clear hb9)
                            | fail)
                          go_roundg (g5 - 1)
                          case rel => exact ⟨q5 + 1, by have := HQ5.out; omega, by go_num, Lib.hid (H5.out.trans ((R1'.out.trans (BW.out.mono R1'.out.size)).mono H5.out.size))⟩
                          case measure => have := HQ5.out; omega
                        · rw [show decide (y ∈ R2) = false from decide_eq_false hm] at CI
                          have h3 : cn = cw := HCW.out.2.trans ((E6.out.2.2 y (fun h => hm ((RE.out y).2 h))).trans HCW.out.1.symm)
                          have f1 : decide (cn = cw) = true := decide_eq_true h3
                          have f2 : (cn == cw) = true := f1
                          have f3 : (cn != cw) = false := by rw [bne, f2]; rfl
                          clear h3 hm
                          go_wp2_with (first
                            | ((go_at_call 36); (with_reducible refine (CI.out _ AW.out).mono ?_); rintro e9 wi ⟨rfl, hb9⟩; have AW := Lib.hid (Sh.all_step AW.out hb9); have BW := Lib.hid (BW.out.trans (hb9.mono BW.out.size)); have c9 := (Below.cell (p := ⟨b5, off5 + q5, none⟩) BW.out DN6.out).trans DQ6.out; have l9 : b5 < wi.heap.size := Nat.lt_of_lt_of_le DN6.out BW.out.size; clear hb9)
                            | fail)
                          go_roundg (g5 - 1)
                          case rel => exact ⟨q5 + 1, by have := HQ5.out; omega, by go_num, Lib.hid (H5.out.trans ((R1'.out.trans (BW.out.mono R1'.out.size)).mono H5.out.size))⟩
                          case measure => have := HQ5.out; omega
                  · obtain rfl : q5 = vn2 := by omega
                    have d0 : decide ((q5 : Int) < q5) = false := by simp
                    have p0 := (show Box _ (wo.heap.size + 1) (kv n.k) from RV.out.box 1 (by decide)).cel 0 (.int .i64 n.k.ph) rfl
                    have p1 := PH6.out
                    have p2 : (n.k.ph == 6) = true := p1
                    go_wp2
                    go_ret
                    exact ⟨rfl, LV.out.bel⟩
              · skip
                have LR := Lib.hid (LB.out.next R.out.bel)
                have ALR := Lib.hid (Sh.all_step HB.out.1 R.out.bel)
                have ph6 : decide (n.k.ph = 6) = true := decide_eq_true E6.out.1
                have PH6 := Lib.hid ph6
                have CN := Lib.hid (fun W y (hW : Hold W n) => rcol_any n.s n.d n.k y W hW.h A.out.fine)
                clear ph6
                go_upto_region 25 with fail
                clear q0 c1 c2
                go_upto_region 26 with (first
                  | (refine w_load (ldHb (LR.out.bx (w.heap.size) (hv s) (by simp))) rfl rfl rfl rfl ?_)
                  | ((go_at_call 37); (with_reducible refine (CU.out _ (LR.out.at _ (by simp)) (LR.out.over HZ.out)).mono ?_); rintro e9 wu ⟨⟨va2, vn2, vc2⟩, rfl, ho, hb2⟩; have OU := Lib.hid ho; have RU := Lib.hid (R.out.next hb2); have LU := Lib.hid (LR.out.next hb2); have AU := Lib.hid (Sh.all_step ALR.out hb2); clear ho hb2))
                obtain ⟨G, hGe⟩ : ∃ G, G = usedL s d := ⟨_, rfl⟩
                rw [← hGe] at OU
                have hvn2 : vn2 = G.length := by have h1 := OU.out.1; simpa using h1.symm
                have hG9 : vn2 ≤ 512 := by rw [hvn2, hGe]; exact Nat.le_trans (used_len s d) (allS_len d.f s.p.n)
                have RW := Lib.hid (Sh.row_of (v := ⟨va2, vn2, vc2⟩) OU.out)
                clear OU hGe hvn2 LR ALR
                go_wp2
                go_loopg [19] vn2 (fun g i wr => ∃ q5 : Nat, q5 + g = vn2 ∧ i = .int .i64 q5 ∧ Hid (Below wu.heap.size wu wr))
                case atStart => exact ⟨0, by omega, rfl, Lib.hid (Below.refl _ _)⟩
                case round =>
                  obtain ⟨q5, hq5, rfl, H5⟩ := hrel
                  obtain ⟨w5, rfl⟩ : ∃ w5 : World, w5 = wr := ⟨_, rfl⟩
                  obtain ⟨g5, rfl⟩ : ∃ g5 : Nat, g5 = gk := ⟨_, rfl⟩
                  have HQ5 := Lib.hid hq5
                  have hq51 : q5 ≤ vn2 := by omega
                  have LV := Lib.hid (LU.out.next H5.out)
                  have RV := Lib.hid (RU.out.next H5.out)
                  have AV := Lib.hid (Sh.all_step AU.out H5.out)
                  clear hq5
                  by_cases hlt5 : q5 < vn2
                  · have d0 : decide ((q5 : Int) < vn2) = true := decide_eq_true (by omega)
                    obtain ⟨b5, off5, rfl, hbl', hcell⟩ := (Row.below RW.out H5.out).2 (by omega)
                    have DQ := Lib.hid (hcell q5 hlt5)
                    have DN : Hid (b5 < w5.heap.size) := Lib.hid (by have := H5.out.size; have h1 : b5 < wu.heap.size := hbl'; omega)
                    obtain ⟨y, hy⟩ : ∃ y, y = G.getD q5 0 := ⟨_, rfl⟩
                    rw [← hy] at DQ
                    obtain ⟨cw, hcw⟩ : ∃ c, c = colQ s d k.mj k.ep y := ⟨_, rfl⟩
                    obtain ⟨cn, hcn⟩ : ∃ c, c = colQ n.s n.d n.k.mj n.k.ep y := ⟨_, rfl⟩
                    have C1 := Lib.hid (fun W (hW : Hold W (⟨s, k, d, xs⟩ : Q2)) => CC.out W y hW)
                    have C2 := Lib.hid (fun W (hW : Hold W n) => CN.out W y hW)
                    rw [← hcw] at C1
                    rw [← hcn] at C2
                    have HCW := Lib.hid (And.intro hcw hcn)
                    clear hcell hbl' hy hcw hcn
                    go_upto_region 29 with fail
                    refine Sh.region_gen fun a0 ha0 => ?_
                    have G2 : a0.tmps[2]? = some (.pointer (some ⟨w.heap.size, 0, none⟩)) := by rw [ha0]; rfl
                    have G3 : a0.tmps[3]? = some (.pointer (some ⟨w.heap.size + 1, 0, none⟩)) := by rw [ha0]; rfl
                    have G18 : a0.tmps[18]? = some (.slice (some ⟨b5, off5, none⟩) vn2 vc2) := by rw [ha0]; rfl
                    have G19 : a0.tmps[19]? = some (.int .i64 (q5 : Int)) := by rw [ha0]; rfl
                    have TZ : a0.tmps.size = 206 := by rw [ha0]; rfl
                    have HA := Lib.hid ha0
                    clear ha0
                    refine region_planK (by kernel_rfl) (by kernel_rfl) (by rw [TZ]; kernel_rfl) (fun (x : Unit) (i : Nat) => (match i with | 0 => (.agg #[.slice s.w.a s.w.n s.w.c, .slice s.p.a s.p.n s.p.c, .slice (s.u 0).a (s.u 0).n (s.u 0).c, .slice (s.u 1).a (s.u 1).n (s.u 1).c, .slice (s.u 2).a (s.u 2).n (s.u 2).c, .slice s.c.a s.c.n s.c.c]) | 1 => (.agg #[.int .i64 k.ph, .int .i64 k.ep, .bool k.mj, .slice k.wk.a k.wk.n k.wk.c, .bool k.ov, .int .i64 k.pa, .int .i64 k.pf, .int .i64 k.ps, .int .i64 k.pc, .bool k.me]) | 2 => .slice (some ⟨b5, off5, none⟩) vn2 vc2 | 3 => .int .i64 (q5 : Int) | 4 => .pointer (some ⟨b5, off5 + q5, none⟩) | 5 => .int .i64 y | 6 => .int .i64 cw | 7 => .int .i64 cw | _ => undef : Value)) (fun _ => false) ?zeroP2 (fun _ _ W => Below w5.heap.size w5 W) () ?startP2 ?wantP2 ?skipP2 ?stepP2 ?doneP2
                    case zeroP2 => exact fun _ _ h => by cases h
                    case startP2 => exact ⟨rfl, rfl, rfl, Nat.le_refl _, fun _ _ => rfl⟩
                    case skipP2 => exact fun i l x W h _ => by cases h
                    case wantP2 =>
                      rintro i o9 l a9 x ho hP haft
                      have hi : i < 8 := (Array.getElem?_eq_some_iff.1 ho).1
                      rcases (show i = 0 ∨ i = 1 ∨ i = 2 ∨ i = 3 ∨ i = 4 ∨ i = 5 ∨ i = 6 ∨ i = 7 by omega) with rfl | rfl | rfl | rfl | rfl | rfl | rfl | rfl
                      · obtain rfl := Option.some.inj ho
                        rfl
                      · obtain rfl := Option.some.inj ho
                        rfl
                      · obtain rfl := Option.some.inj ho
                        rfl
                      · obtain rfl := Option.some.inj ho
                        rfl
                      · obtain rfl := Option.some.inj ho
                        rfl
                      · obtain rfl := Option.some.inj ho
                        rfl
                      · obtain rfl := Option.some.inj ho
                        rfl
                      · obtain rfl := Option.some.inj ho
                        rfl
                    case stepP2 =>
                      rintro i o9 l a9 x W9 ho hP hkp hcd hI hl hsk haft K hK
                      have hi : i < 8 := (Array.getElem?_eq_some_iff.1 ho).1
                      rcases (show i = 0 ∨ i = 1 ∨ i = 2 ∨ i = 3 ∨ i = 4 ∨ i = 5 ∨ i = 6 ∨ i = 7 by omega) with rfl | rfl | rfl | rfl | rfl | rfl | rfl | rfl
                      · clear hsk
                        obtain rfl := Option.some.inj ho
                        have q2 := (hP.keep (j := 2) (by kernel_rfl)).trans G2
                        exact Mu.p_load rfl (Mu.ev q2) (ldHb ((LV.out.next hI).bx w.heap.size (hv s) (by simp))) (hK () _ (fun _ _ => rfl) hI)
                      · clear hsk
                        obtain rfl := Option.some.inj ho
                        have q3 := (hP.keep (j := 3) (by kernel_rfl)).trans G3
                        exact Mu.p_load rfl (Mu.ev q3) (ldKb ((LV.out.next hI).bx (w.heap.size + 1) (kv k) (by simp))) (hK () _ (fun _ _ => rfl) hI)
                      · clear hsk
                        obtain rfl := Option.some.inj ho
                        have q18 := (hP.keep (j := 18) (by kernel_rfl)).trans G18
                        go_simp
                        exact hK () _ (fun _ _ => rfl) hI
                      · clear hsk
                        obtain rfl := Option.some.inj ho
                        have q19 := (hP.keep (j := 19) (by kernel_rfl)).trans G19
                        go_simp
                        exact hK () _ (fun _ _ => rfl) hI
                      · clear hsk
                        obtain rfl := Option.some.inj ho
                        have e2 := hP.got 2 _ 167 rfl (haft ⟨2, .data⟩ (by simp) rfl) rfl
                        have e3 := hP.got 3 _ 168 rfl (haft ⟨3, .data⟩ (by simp) rfl) rfl
                        try dsimp only at e2 e3
                        go_simp
                        exact hK () _ (fun _ _ => rfl) hI
                      · clear hsk
                        obtain rfl := Option.some.inj ho
                        have e4 := hP.got 4 _ 169 rfl (haft ⟨4, .data⟩ (by simp) rfl) rfl
                        try dsimp only at e4
                        have c9 := (Below.cell (p := ⟨b5, off5 + q5, none⟩) (hI) DN.out).trans DQ.out
                        have l9 : b5 < W9.heap.size := Nat.lt_of_lt_of_le DN.out (hI).size
                        go_simp
                        exact hK () _ (fun _ _ => rfl) hI
                      · clear hsk
                        obtain rfl := Option.some.inj ho
                        have e0 := hP.got 0 _ 165 rfl (haft ⟨0, .data⟩ (by simp) rfl) rfl
                        have e1 := hP.got 1 _ 166 rfl (haft ⟨1, .data⟩ (by simp) rfl) rfl
                        have e5 := hP.got 5 _ 170 rfl (haft ⟨5, .data⟩ (by simp) rfl) rfl
                        try dsimp only at e0 e1 e5
                        go_simp
                        refine (C1.out W9 ((LV.out.next hI).at (⟨s, k, d, xs⟩ : Q2) (by simp))).mono ?_
                        rintro e9 w9 ⟨rfl, hb9⟩
                        exact hK () _ (fun _ _ => rfl) (hI.trans (hb9.mono hI.size))
                      · clear hsk
                        obtain rfl := Option.some.inj ho
                        have e6 := hP.got 6 _ 171 rfl (haft ⟨6, .data⟩ (by simp) rfl) rfl
                        try dsimp only at e6
                        go_simp
                        exact hK () _ (fun _ _ => rfl) hI
                    case doneP2 =>
                      rintro l a9 x W9 hP hI hall
                      have R9 := Lib.hid hI
                      obtain rfl := pl_full hP (by rw [TZ]; kernel_rfl) hall [some 165, some 166, some 167, some 168, some 169, some 170, some 171, some 20] (by rfl)
                      clear hP hI hall TZ G2 G3 G18 G19
                      rw [HA.out]
                      simp only [putD, Act.put, List.setIfInBounds_toArray, List.set_cons_succ, List.set_cons_zero]
                      clear HA
                      have R1' : Hid (Below w5.heap.size w5 W9) := R9
                      clear R9
                      obtain ⟨w6, rfl⟩ : ∃ w6 : World, w6 = W9 := ⟨_, rfl⟩
                      have DQ6 := Lib.hid ((Below.cell (p := ⟨b5, off5 + q5, none⟩) R1'.out DN.out).trans DQ.out)
                      have DN6 : Hid (b5 < w6.heap.size) := Lib.hid (Nat.lt_of_lt_of_le DN.out R1'.out.size)
                      have RV6 := Lib.hid (RV.out.next R1'.out)
                      go_upto_region 30 with fail
                      refine Sh.region_gen fun a0 ha0 => ?_
                      have G14 : a0.tmps[14]? = some (.pointer (some ⟨wo.heap.size, 0, none⟩)) := by rw [ha0]; rfl
                      have G15 : a0.tmps[15]? = some (.pointer (some ⟨wo.heap.size + 1, 0, none⟩)) := by rw [ha0]; rfl
                      have G18 : a0.tmps[18]? = some (.slice (some ⟨b5, off5, none⟩) vn2 vc2) := by rw [ha0]; rfl
                      have G19 : a0.tmps[19]? = some (.int .i64 (q5 : Int)) := by rw [ha0]; rfl
                      have TZ : a0.tmps.size = 206 := by rw [ha0]; rfl
                      have HA := Lib.hid ha0
                      clear ha0
                      refine region_planK (by kernel_rfl) (by kernel_rfl) (by rw [TZ]; kernel_rfl) (fun (x : Unit) (i : Nat) => (match i with | 0 => (.agg #[.slice n.s.w.a n.s.w.n n.s.w.c, .slice n.s.p.a n.s.p.n n.s.p.c, .slice (n.s.u 0).a (n.s.u 0).n (n.s.u 0).c, .slice (n.s.u 1).a (n.s.u 1).n (n.s.u 1).c, .slice (n.s.u 2).a (n.s.u 2).n (n.s.u 2).c, .slice n.s.c.a n.s.c.n n.s.c.c]) | 1 => (.agg #[.int .i64 n.k.ph, .int .i64 n.k.ep, .bool n.k.mj, .slice n.k.wk.a n.k.wk.n n.k.wk.c, .bool n.k.ov, .int .i64 n.k.pa, .int .i64 n.k.pf, .int .i64 n.k.ps, .int .i64 n.k.pc, .bool n.k.me]) | 2 => .slice (some ⟨b5, off5, none⟩) vn2 vc2 | 3 => .int .i64 (q5 : Int) | 4 => .pointer (some ⟨b5, off5 + q5, none⟩) | 5 => .int .i64 y | 6 => .int .i64 cn | 7 => .int .i64 cn | _ => undef : Value)) (fun _ => false) ?zeroQ2 (fun _ _ W => Below w6.heap.size w6 W) () ?startQ2 ?wantQ2 ?skipQ2 ?stepQ2 ?doneQ2
                      case zeroQ2 => exact fun _ _ h => by cases h
                      case startQ2 => exact ⟨rfl, rfl, rfl, Nat.le_refl _, fun _ _ => rfl⟩
                      case skipQ2 => exact fun i l x W h _ => by cases h
                      case wantQ2 =>
                        rintro i o9 l a9 x ho hP haft
                        have hi : i < 8 := (Array.getElem?_eq_some_iff.1 ho).1
                        rcases (show i = 0 ∨ i = 1 ∨ i = 2 ∨ i = 3 ∨ i = 4 ∨ i = 5 ∨ i = 6 ∨ i = 7 by omega) with rfl | rfl | rfl | rfl | rfl | rfl | rfl | rfl
                        · obtain rfl := Option.some.inj ho
                          rfl
                        · obtain rfl := Option.some.inj ho
                          rfl
                        · obtain rfl := Option.some.inj ho
                          rfl
                        · obtain rfl := Option.some.inj ho
                          rfl
                        · obtain rfl := Option.some.inj ho
                          rfl
                        · obtain rfl := Option.some.inj ho
                          rfl
                        · obtain rfl := Option.some.inj ho
                          rfl
                        · obtain rfl := Option.some.inj ho
                          rfl
                      case stepQ2 =>
                        rintro i o9 l a9 x W9 ho hP hkp hcd hI hl hsk haft K hK
                        have hi : i < 8 := (Array.getElem?_eq_some_iff.1 ho).1
                        rcases (show i = 0 ∨ i = 1 ∨ i = 2 ∨ i = 3 ∨ i = 4 ∨ i = 5 ∨ i = 6 ∨ i = 7 by omega) with rfl | rfl | rfl | rfl | rfl | rfl | rfl | rfl
                        · clear hsk
                          obtain rfl := Option.some.inj ho
                          have q14 := (hP.keep (j := 14) (by kernel_rfl)).trans G14
                          exact Mu.p_load rfl (Mu.ev q14) (ldHb (show Box W9 wo.heap.size (hv n.s) from (RV6.out.next hI).box 0 (by decide))) (hK () _ (fun _ _ => rfl) hI)
                        · clear hsk
                          obtain rfl := Option.some.inj ho
                          have q15 := (hP.keep (j := 15) (by kernel_rfl)).trans G15
                          exact Mu.p_load rfl (Mu.ev q15) (ldKb (show Box W9 (wo.heap.size + 1) (kv n.k) from (RV6.out.next hI).box 1 (by decide))) (hK () _ (fun _ _ => rfl) hI)
                        · clear hsk
                          obtain rfl := Option.some.inj ho
                          have q18 := (hP.keep (j := 18) (by kernel_rfl)).trans G18
                          go_simp
                          exact hK () _ (fun _ _ => rfl) hI
                        · clear hsk
                          obtain rfl := Option.some.inj ho
                          have q19 := (hP.keep (j := 19) (by kernel_rfl)).trans G19
                          go_simp
                          exact hK () _ (fun _ _ => rfl) hI
                        · clear hsk
                          obtain rfl := Option.some.inj ho
                          have e2 := hP.got 2 _ 174 rfl (haft ⟨2, .data⟩ (by simp) rfl) rfl
                          have e3 := hP.got 3 _ 175 rfl (haft ⟨3, .data⟩ (by simp) rfl) rfl
                          try dsimp only at e2 e3
                          go_simp
                          exact hK () _ (fun _ _ => rfl) hI
                        · clear hsk
                          obtain rfl := Option.some.inj ho
                          have e4 := hP.got 4 _ 176 rfl (haft ⟨4, .data⟩ (by simp) rfl) rfl
                          try dsimp only at e4
                          have c9 := (Below.cell (p := ⟨b5, off5 + q5, none⟩) (hI) DN6.out).trans DQ6.out
                          have l9 : b5 < W9.heap.size := Nat.lt_of_lt_of_le DN6.out (hI).size
                          go_simp
                          exact hK () _ (fun _ _ => rfl) hI
                        · clear hsk
                          obtain rfl := Option.some.inj ho
                          have e0 := hP.got 0 _ 172 rfl (haft ⟨0, .data⟩ (by simp) rfl) rfl
                          have e1 := hP.got 1 _ 173 rfl (haft ⟨1, .data⟩ (by simp) rfl) rfl
                          have e5 := hP.got 5 _ 177 rfl (haft ⟨5, .data⟩ (by simp) rfl) rfl
                          try dsimp only at e0 e1 e5
                          go_simp
                          refine (C2.out W9 ((RV6.out.next hI).at n (by simp))).mono ?_
                          rintro e9 w9 ⟨rfl, hb9⟩
                          exact hK () _ (fun _ _ => rfl) (hI.trans (hb9.mono hI.size))
                        · clear hsk
                          obtain rfl := Option.some.inj ho
                          have e6 := hP.got 6 _ 178 rfl (haft ⟨6, .data⟩ (by simp) rfl) rfl
                          try dsimp only at e6
                          go_simp
                          exact hK () _ (fun _ _ => rfl) hI
                      case doneQ2 =>
                        rintro l a9 x W9 hP hI hall
                        have R9 := Lib.hid hI
                        obtain rfl := pl_full hP (by rw [TZ]; kernel_rfl) hall [some 172, some 173, some 174, some 175, some 176, some 177, some 178, some 21] (by rfl)
                        clear hP hI hall TZ G14 G15 G18 G19
                        rw [HA.out]
                        simp only [putD, Act.put, List.setIfInBounds_toArray, List.set_cons_succ, List.set_cons_zero]
                        clear HA
                        have BW : Hid (Below w6.heap.size w6 W9) := R9
                        have AW := Lib.hid (Sh.all_step (Sh.all_step AV.out R1'.out) BW.out)
                        have c9 := (Below.cell (p := ⟨b5, off5 + q5, none⟩) BW.out DN6.out).trans DQ6.out
                        have l9 : b5 < W9.heap.size := Nat.lt_of_lt_of_le DN6.out BW.out.size
                        have CI := Lib.hid (fun W (h : Ls.Alling vL6 W ⟨ua, un, uc⟩ R2) => in_any W W.heap.size ua un uc R2 y (by omega) (Sh.row_of (v := ⟨ua, un, uc⟩) h.own))
                        clear R9
                        by_cases hm : y ∈ R2
                        · rw [show decide (y ∈ R2) = true from decide_eq_true hm] at CI
                          have h3 : cn = 3 := HCW.out.2.trans (E6.out.2.1 y ((RE.out y).1 hm))
                          have f1 : decide (cn = 3) = true := decide_eq_true h3
                          have f2 : (cn == 3) = true := f1
                          have f3 : (cn != 3) = false := by rw [bne, f2]; rfl
                          clear h3 hm
                          go_wp2_with (first
                            | ((go_at_call 36); (with_reducible refine (CI.out _ AW.out).mono ?_); rintro e9 wi ⟨rfl, hb9⟩; have AW := Lib.hid (Sh.all_step AW.out hb9); have BW := Lib.hid (BW.out.trans (hb9.mono BW.out.size)); have c9 := (Below.cell (p := ⟨b5, off5 + q5, none⟩) BW.out DN6.out).trans DQ6.out; have l9 : b5 < wi.heap.size := Nat.lt_of_lt_of_le DN6.out BW.out.size; clear hb9)
                            | fail)
                          go_roundg (g5 - 1)
                          case rel => exact ⟨q5 + 1, by have := HQ5.out; omega, by go_num, Lib.hid (H5.out.trans ((R1'.out.trans (BW.out.mono R1'.out.size)).mono H5.out.size))⟩
                          case measure => have := HQ5.out; omega
                        · rw [show decide (y ∈ R2) = false from decide_eq_false hm] at CI
                          have h3 : cn = cw := HCW.out.2.trans ((E6.out.2.2 y (fun h => hm ((RE.out y).2 h))).trans HCW.out.1.symm)
                          have f1 : decide (cn = cw) = true := decide_eq_true h3
                          have f2 : (cn == cw) = true := f1
                          have f3 : (cn != cw) = false := by rw [bne, f2]; rfl
                          clear h3 hm
                          go_wp2_with (first
                            | ((go_at_call 36); (with_reducible refine (CI.out _ AW.out).mono ?_); rintro e9 wi ⟨rfl, hb9⟩; have AW := Lib.hid (Sh.all_step AW.out hb9); have BW := Lib.hid (BW.out.trans (hb9.mono BW.out.size)); have c9 := (Below.cell (p := ⟨b5, off5 + q5, none⟩) BW.out DN6.out).trans DQ6.out; have l9 : b5 < wi.heap.size := Nat.lt_of_lt_of_le DN6.out BW.out.size; clear hb9)
                            | fail)
                          go_roundg (g5 - 1)
                          case rel => exact ⟨q5 + 1, by have := HQ5.out; omega, by go_num, Lib.hid (H5.out.trans ((R1'.out.trans (BW.out.mono R1'.out.size)).mono H5.out.size))⟩
                          case measure => have := HQ5.out; omega
                  · obtain rfl : q5 = vn2 := by omega
                    have d0 : decide ((q5 : Int) < q5) = false := by simp
                    have p0 := (show Box _ (wo.heap.size + 1) (kv n.k) from RV.out.box 1 (by decide)).cel 0 (.int .i64 n.k.ph) rfl
                    have p1 := PH6.out
                    have p2 : (n.k.ph == 6) = true := p1
                    go_wp2
                    go_ret
                    exact ⟨rfl, LV.out.bel⟩
        · have f1 : decide ((un : Int) = (q : Int)) = false := decide_eq_false (by omega)
          have f2 : ((un : Int) == (q : Int)) = false := f1
          have f3 : (un == q) = false := by simp [hq2]
          have HQ2 := Lib.hid hq2
          clear hq2 hle hun
          go_wp2
          go_roundg (513 - un)
          case rel => exact ⟨⟨ua, un, uc⟩, R2, by show un + (513 - un) = 513; omega, rfl, Lib.hid ⟨HB.out.1, HB.out.2.clo⟩⟩
          case measure => have := HG1.out; have := HLE.out; have := HQ2.out; omega
theorem walk (s : Hs) (d : Hd_) (k : Sh.Ks) (xs : List Int) (w : World) (hz : Cl.Sz w) (hp : Hp w w.heap.size s d) (hv : Fit64 d.ws) (_ : s.p.n ≤ s.p.c) (hk : Sh.WRow w w.heap.size k xs) (_ : k.wk.n ≤ k.wk.c) (_ : k.wk.c ≤ maxLen) (_ : (Lit.int .i64 k.ep).wf = true) : Calls Tryz.prog 7 #[(.agg #[.slice s.w.a s.w.n s.w.c, .slice s.p.a s.p.n s.p.c, .slice (s.u 0).a (s.u 0).n (s.u 0).c, .slice (s.u 1).a (s.u 1).n (s.u 1).c, .slice (s.u 2).a (s.u 2).n (s.u 2).c, .slice s.c.a s.c.n s.c.c]), (.agg #[.int .i64 k.ph, .int .i64 k.ep, .bool k.mj, .slice k.wk.a k.wk.n k.wk.c, .bool k.ov, .int .i64 k.pa, .int .i64 k.pf, .int .i64 k.ps, .int .i64 k.pc, .bool k.me])] w fun e w' => e = .returned (.bool true) ∧ Below w.heap.size w w' := by
  cases hf : Sh.fewK s k
  · exact walk_few s d k xs w hf hz hp hv hk
  by_cases h5 : k.ph = 5
  case neg => exact walk_ph s d k xs w hf h5 hz hp hv hk
  rcases Bool.eq_false_or_eq_true k.mj with hmj | hmj
  case inr => exact walk_mj s d k xs w hf h5 hmj hz hp hv hk
  cases hm : mayB0 s d
  · exact walk_may s d k xs w hf h5 hmj hm hz hp hv hk
  rcases known_two k xs (Sh.greyL s d k.mj k.ep) with hkn | hkn
  case inr => exact walk_known s d k xs w hf h5 hmj hm hkn hz hp hv hk
  by_cases hwk : k.wk.n ≤ 4
  case neg => exact walk_work s d k xs w hf h5 hmj hm hkn (by omega) hz hp hv hk
  by_cases hpa : k.pa = 0
  case neg => exact walk_pa s d k xs w hf h5 hmj hm hkn hwk hpa hz hp hv hk
  by_cases hpf : k.pf = 0
  case neg => exact walk_pf s d k xs w hf h5 hmj hm hkn hwk hpa hpf hz hp hv hk
  by_cases hps : k.ps = 0
  case neg => exact walk_ps s d k xs w hf h5 hmj hm hkn hwk hpa hpf hps hz hp hv hk
  exact walk_steps s d k xs w hf h5 hmj hm hkn hwk hpa hpf hps hz hp hv hk
-- the frame (hp16frame.py)
set_option maxRecDepth 100000 in
theorem lifted (os : Os) (started : os.Started) (H : Type) (enc : TypeId × Value → H) :
    ReturnsInHanded {} Tryz.checked os 7 .any (fun w args => (Rows.traceReachSpec.pre enc Tryz.prog Tryz.f7 [] false w args ∧ laidMetH Tryz.prog laidSizes w) ∧ sizedMet enc Tryz.prog Tryz.f7 (OpenSpec.ofChange Rows.traceReachSpec) false w args)
      (Rows.traceReachSpec.post enc Tryz.prog Tryz.f7 false true false false) := by
  refine returnsInHanded_of_change_and (C := Tryz.checked) (X := fun w _ => laidMetH Tryz.prog laidSizes w) (fun _ _ _ hh h => h.of_heap hh) own started (by kernel_rfl) Tryz.func7
    (ChangeSpec.witness_shaped (enc := enc) (C := Tryz.checked) (os := os) (X := fun w _ => laidMetH Tryz.prog laidSizes w) false (World.doorLaid Tryz.prog 400 os) #[.agg #[.slice none 0 0, .slice none 0 0, .slice none 0 0, .slice none 0 0, .slice none 0 0, .slice none 0 0], .agg #[.int .i64 0, .int .i64 0, .bool false, .slice none 0 0, .bool false, .int .i64 0, .int .i64 0, .int .i64 0, .int .i64 0, .bool false]] 8 rfl (World.shaped_of_RefB (by kernel_rfl) (by kernel_rfl)) (by kernel_rfl) (by kernel_rfl) (by kernel_rfl) (door_met os _)) ?_
  intro W base args ds gs before hval0 hW _ _ hL _
  have hval : ∀ (j : Nat) t v, Tryz.f7.params[j]? = some t → args[j]? = some v → Value.okWide Tryz.prog W .any base t v := hval0
  have hW' := hW
  obtain ⟨p, q, hA0, hV, rfl, hfz, hnd⟩ := hW
  have hA : DataW.TrodAll enc Tryz.prog W 0 (fun _ => true) true Tryz.f7.params.toList args.toList ds p := hA0
  rw [Tryz.params7] at hA hval
  obtain ⟨v0, vs0, d0, ds0, p0, q0, hargs, rfl, rfl, h0, r0⟩ := trodAll_cons hA
  obtain ⟨v1, vs1, d1, ds1, p1, q1, rfl, rfl, rfl, h1, r1⟩ := trodAll_cons r0
  obtain ⟨rfl, rfl, rfl⟩ := trodAll_nil r1
  obtain rfl : args = #[v0, v1] := by cases args; simp_all
  obtain ⟨rfl, rfl⟩ := trodVars_none hV
  have k0 := h0
  have lt0 : ∀ x ∈ p0, x.block < W.heap.size := by obtain ⟨m, hm⟩ := k0; exact DataW.trod_lt m _ _ _ hm
  obtain ⟨s0, z0, rfl, w0, f0, b0⟩ := heap_of8 (hval 0 28 v0 rfl rfl) h0
  have k1 := h1
  have lt1 : ∀ x ∈ p1, x.block < W.heap.size := by obtain ⟨m, hm⟩ := k1; exact DataW.trod_lt m _ _ _ hm
  obtain ⟨k1', z1, rfl, w1, m1, x1, f1⟩ := Sh.col_of (hval 1 30 v1 rfl rfl) h1
  clear hA0 hval0
  refine (walk s0 z0 k1' z1 W (of_laid hL) w0 f0 b0 w1 m1 x1 f1).mono fun e W' ⟨he, bel⟩ => ?_
  subst he
  exact ⟨_, rfl, _, _, _, [], _, [], hW', trodAll_mk1 (shut_bool Tryz.underlying4 _), (trodAll_cons_mk (Below.trod laidOut (by kernel_rfl) (of_decide_eq_true (by kernel_rfl)) k0 bel lt0) (trodAll_cons_mk (Below.trod laidOut (by kernel_rfl) (of_decide_eq_true (by kernel_rfl)) k1 bel lt1) trodAll_mk0)), rfl, bel.frame _, fun h => by cases h⟩

theorem over : Rows.TraceReachSaid :=
  OpenClaim.holds_of_wide 7 Tryz.f7 rfl rfl rfl rfl rfl rfl rfl ⟨rfl, rfl, rfl, rfl, rfl⟩ rfl rfl rfl rfl rfl (by kernel_rfl) Tryz.func7 (by kernel_rfl)
    (of_decide_eq_true (by kernel_rfl)) (by unfold Func.isWrapper; first | (rw [if_pos (by decide +kernel)]; kernel_rfl) | (rw [if_neg (by decide +kernel)]; exact ⟨rfl, rfl⟩))
    (fun os started H enc _ => lifted os started H enc)

/-- The statement: the card. -/
theorem proved : Rows.TraceReachCardSaid :=
  Claim7.holds_tied_plain_at .later [] [.data] true Rows.traceReachCard.stood.harness false
    over (fun _ h => by cases h) (by kernel_rfl) (fun _ h => by cases h) traceReach_row_tie rfl ⟨rfl, rfl⟩ (by kernel_rfl) rfl
    (fun f fn hf hfn => by
      obtain rfl : f = 7 := Option.some.inj ((show Tryz.prog.funcNamed "ragpicker/ragpickerlaw16.TraceReach" = some 7 by kernel_rfl).symm.trans hf) |>.symm
      obtain rfl : fn = Tryz.f7 := (Option.some.inj (Tryz.func7.symm.trans hfn)).symm
      exact ⟨by kernel_rfl, fun j t ht => by
        rw [Tryz.params7] at ht
        have hm : t ∈ [28, 30] := by simpa using Array.mem_of_getElem? ht
        have hall : ([28, 30].all fun u => !Tryz.prog.wantsStandIn u) = true := by kernel_rfl
        exact (show Tryz.prog.wantsStandIn t = false by simpa using List.all_eq_true.1 hall t hm)⟩)
    (by kernel_rfl)
#print axioms proved
end Go.Proofs.YtccjelpfmkbmiaaGreatDoor.TraceReach
