/-
  TraceKnows: if all that is grey is at At, or on Work, or Over, or Seek, tells of it, it is so behind a step; so that nothing is grey when the phase is Sweep: for every heap of at most 9 pages and 130 words, and every work list of at most 100; the table of sizes is tied to the program's text by the card.
-/
import Derived.Test.YtccjelpfmkbmiaaGreatDoorUTrAwake
import Derived.Test.YtccjelpfmkbmiaaGreatDoorUTrKnow
import Derived.Test.YtccjelpfmkbmiaaGreatDoorHpUM
namespace Go.Proofs.YtccjelpfmkbmiaaGreatDoor.TraceKnows
open Go.Proofs.YtccjelpfmkbmiaaGreatDoor Go.Proofs.YtccjelpfmkbmiaaGreatDoor.Rt Go.Proofs.YtccjelpfmkbmiaaGreatDoor.Tr
open Go.ChangeShapes Go.WideShapes Go.ChangeAt Go.RowKit Go.Deep
open Go.Proofs.YtccjelpfmkbmiaaGreatDoor.Mu (hv kv w_load w_store w_loadg ldHb ldKb stHb stKb st_int ld_int noHs0 noK0)
set_option maxRecDepth 100000

set_option maxHeartbeats 1000000 in
theorem walk_few (s : Hs) (d : Hd_) (k : Sh.Ks) (xs : List Int) (w : World) (hf : Sh.fewK s k = false) (hz : Cl.Sz w) (hp : Hp w w.heap.size s d) (_ : ∀ i, -9223372036854775808 ≤ d.ws.getD i 0 ∧ d.ws.getD i 0 ≤ 9223372036854775807) (hk : Sh.WRow w w.heap.size k xs) : Calls Tryz.prog 4 #[(.agg #[.slice s.w.a s.w.n s.w.c, .slice s.p.a s.p.n s.p.c, .slice (s.u 0).a (s.u 0).n (s.u 0).c, .slice (s.u 1).a (s.u 1).n (s.u 1).c, .slice (s.u 2).a (s.u 2).n (s.u 2).c, .slice s.c.a s.c.n s.c.c]), (.agg #[.int .i64 k.ph, .int .i64 k.ep, .bool k.mj, .slice k.wk.a k.wk.n k.wk.c, .bool k.ov, .int .i64 k.pa, .int .i64 k.pf, .int .i64 k.ps, .int .i64 k.pc, .bool k.me])] w fun e w' => e = .returned (.bool true) ∧ Below w.heap.size w w' := by
  have HZ := Lib.hid hz
  have CF := Lib.hid (fun W => Tr.few_any s k W)
  rw [hf] at CF
  go_enter Tryz.func4, Tryz.ntmps4
  go_upto_region 1 with fail
  obtain ⟨W1, hW1⟩ : ∃ W1, W1 = (w.alloc (.cells #[.slice s.w.a s.w.n s.w.c, .slice s.p.a s.p.n s.p.c, .slice (s.u 0).a (s.u 0).n (s.u 0).c, .slice (s.u 1).a (s.u 1).n (s.u 1).c, .slice (s.u 2).a (s.u 2).n (s.u 2).c, .slice s.c.a s.c.n s.c.c] 28)).alloc (.cells #[.int .i64 k.ph, .int .i64 k.ep, .bool k.mj, .slice k.wk.a k.wk.n k.wk.c, .bool k.ov, .int .i64 k.pa, .int .i64 k.pf, .int .i64 k.ps, .int .i64 k.pc, .bool k.me] 30) := ⟨_, rfl⟩
  have L1 := Lib.hid (((lq_none w).two (s := s) (k := k) hW1).held (n := (⟨s, k, d, xs⟩ : Q2)) ⟨hp.next (by rw [hW1]; exact ((Below.refl _ _).alloc (Nat.le_refl _) _).alloc (by simp) _), hk.next (by rw [hW1]; exact ((Below.refl _ _).alloc (Nat.le_refl _) _).alloc (by simp) _)⟩)
  rw [← hW1]
  clear hW1 hz hp hk hf
  go_upto_region 2 with ((go_at_call 22); (with_reducible refine (Tr.awake_any _ (L1.out.over HZ.out)).mono ?_); rintro e9 w2 ⟨rfl, hb9⟩; have L2 := Lib.hid (L1.out.next hb9); clear hb9 L1)
  go_upto_region 3 with (first
    | (refine w_load (ldHb (L2.out.bx (w.heap.size) (hv s) (by simp))) rfl rfl rfl rfl ?_)
    | (refine w_load (ldKb (L2.out.bx (w.heap.size + 1) (kv k) (by simp))) rfl rfl rfl rfl ?_)
    | ((go_at_call 23); (with_reducible refine (CF.out _).mono ?_); rintro e9 w3 ⟨rfl, hb9⟩; have L3 := Lib.hid (L2.out.next hb9); clear hb9 L2))
  go_wp2
  go_ret
  exact ⟨rfl, L3.out.bel⟩
theorem known_iff (s : Hs) (d : Hd_) (k : Sh.Ks) (xs : List Int) : knownI k xs (Sh.greyL s d k.mj k.ep) = 0 ↔ Known s d k xs := by
  unfold knownI
  have e : (Sh.greyL s d k.mj k.ep).all (knowB k xs) = true ↔ Known s d k xs := by
    rw [List.all_eq_true]
    exact ⟨fun h y hy => h y (Sh.grey_mem.2 hy), fun h y hy => h y (Sh.grey_mem.1 hy)⟩
  split
  · next h => exact ⟨fun _ => e.1 h, fun _ => rfl⟩
  · next h => exact ⟨fun hh => absurd hh (by decide), fun hh => absurd (e.2 hh) h⟩
theorem known_two (k : Sh.Ks) (xs G : List Int) : knownI k xs G = 0 ∨ knownI k xs G = 1 := by
  unfold knownI
  split <;> simp
theorem known_call (n : Q2) (w : World) (hn : In w n) : Calls Tryz.prog 25 #[(.agg #[.slice n.s.w.a n.s.w.n n.s.w.c, .slice n.s.p.a n.s.p.n n.s.p.c, .slice (n.s.u 0).a (n.s.u 0).n (n.s.u 0).c, .slice (n.s.u 1).a (n.s.u 1).n (n.s.u 1).c, .slice (n.s.u 2).a (n.s.u 2).n (n.s.u 2).c, .slice n.s.c.a n.s.c.n n.s.c.c]), (.agg #[.int .i64 n.k.ph, .int .i64 n.k.ep, .bool n.k.mj, .slice n.k.wk.a n.k.wk.n n.k.wk.c, .bool n.k.ov, .int .i64 n.k.pa, .int .i64 n.k.pf, .int .i64 n.k.ps, .int .i64 n.k.pc, .bool n.k.me])] w fun e w' => e = .returned (.int .i64 (knownI n.k n.xs (Sh.greyL n.s n.d n.k.mj n.k.ep))) ∧ Below w.heap.size w w' :=
  known_core n w _ (Nat.le_trans (Sh.grey_len _ _ _ _) (Nat.le_trans (used_len n.s n.d) (allS_len n.d.f n.s.p.n))) hn.hold hn.x fun W h => rgrey_any n W h hn.fine
/-- What is known behind the step. -/
theorem known_next {n m : Q2} (hlen : n.d.ws.length = n.s.w.n) (hk : Known n.s n.d n.k n.xs) (h5 : n.k.ph = 5) (hf : headE n.s n.d n.k.pa = 0 → 0 ≤ n.k.pf ∧ n.k.pf < nOf (wd n.d n.k.pa)) (hl : Lens n.s m.s) (hd : m.d = (stepR n.s n.d n.k n.xs).d) (hx : m.xs = (stepR n.s n.d n.k n.xs).xs) (hkk : m.k = Sh.kw (stepR n.s n.d n.k n.xs).k m.k.wk (stepR n.s n.d n.k n.xs).k.ov) :
    knownI m.k m.xs (Sh.greyL m.s m.d m.k.mj m.k.ep) = 0 ∧ (m.k.ph = 6 → Sh.greyL m.s m.d m.k.mj m.k.ep = []) := by
  obtain ⟨ms, mk, md, mx⟩ := m
  dsimp only at hl hd hx hkk ⊢
  have e1 : mk.ph = (stepR n.s n.d n.k n.xs).k.ph ∧ mk.mj = (stepR n.s n.d n.k n.xs).k.mj ∧ mk.ep = (stepR n.s n.d n.k n.xs).k.ep ∧ (knowB mk = knowB (stepR n.s n.d n.k n.xs).k) := by
    rw [hkk]
    exact ⟨rfl, rfl, rfl, rfl⟩
  have h1 := known_step hlen hk hf
  have h2 := (known_iff _ _ _ _).2 h1
  refine ⟨?_, fun h6 => ?_⟩
  · rw [grey_lens hl, e1.2.1, e1.2.2.1, hd, hx]
    unfold knownI at h2 ⊢
    rw [e1.2.2.2]
    exact h2
  · rw [grey_lens hl, e1.2.1, e1.2.2.1, hd]
    exact known_sweep hk (by rw [← e1.1]; exact h6) h5
set_option maxHeartbeats 4000000 in
theorem walk_other (s : Hs) (d : Hd_) (k : Sh.Ks) (xs : List Int) (w : World) (hf : Sh.fewK s k = true) (h5 : ¬ k.ph = 5) (hz : Cl.Sz w) (hp : Hp w w.heap.size s d) (hv : ∀ i, -9223372036854775808 ≤ d.ws.getD i 0 ∧ d.ws.getD i 0 ≤ 9223372036854775807) (hk : Sh.WRow w w.heap.size k xs) : Calls Tryz.prog 4 #[(.agg #[.slice s.w.a s.w.n s.w.c, .slice s.p.a s.p.n s.p.c, .slice (s.u 0).a (s.u 0).n (s.u 0).c, .slice (s.u 1).a (s.u 1).n (s.u 1).c, .slice (s.u 2).a (s.u 2).n (s.u 2).c, .slice s.c.a s.c.n s.c.c]), (.agg #[.int .i64 k.ph, .int .i64 k.ep, .bool k.mj, .slice k.wk.a k.wk.n k.wk.c, .bool k.ov, .int .i64 k.pa, .int .i64 k.pf, .int .i64 k.ps, .int .i64 k.pc, .bool k.me])] w fun e w' => e = .returned (.bool true) ∧ Below w.heap.size w w' := by
  obtain ⟨hin, hx, hwn, hlen⟩ := few_in hf hp hv hk hz
  have c1 : decide (k.ph = 5) = false := decide_eq_false h5
  have c2 : (k.ph == 5) = false := c1
  have c3 : (k.ph != 5) = true := by rw [bne, c2]; rfl
  clear hin hx hwn hlen h5
  have HZ := Lib.hid hz
  have CF := Lib.hid (fun W => Tr.few_any s k W)
  rw [hf] at CF
  go_enter Tryz.func4, Tryz.ntmps4
  go_upto_region 1 with fail
  obtain ⟨W1, hW1⟩ : ∃ W1, W1 = (w.alloc (.cells #[.slice s.w.a s.w.n s.w.c, .slice s.p.a s.p.n s.p.c, .slice (s.u 0).a (s.u 0).n (s.u 0).c, .slice (s.u 1).a (s.u 1).n (s.u 1).c, .slice (s.u 2).a (s.u 2).n (s.u 2).c, .slice s.c.a s.c.n s.c.c] 28)).alloc (.cells #[.int .i64 k.ph, .int .i64 k.ep, .bool k.mj, .slice k.wk.a k.wk.n k.wk.c, .bool k.ov, .int .i64 k.pa, .int .i64 k.pf, .int .i64 k.ps, .int .i64 k.pc, .bool k.me] 30) := ⟨_, rfl⟩
  have L1 := Lib.hid (((lq_none w).two (s := s) (k := k) hW1).held (n := (⟨s, k, d, xs⟩ : Q2)) ⟨hp.next (by rw [hW1]; exact ((Below.refl _ _).alloc (Nat.le_refl _) _).alloc (by simp) _), hk.next (by rw [hW1]; exact ((Below.refl _ _).alloc (Nat.le_refl _) _).alloc (by simp) _)⟩)
  rw [← hW1]
  clear hW1 hz hp hv hk hf
  go_upto_region 2 with ((go_at_call 22); (with_reducible refine (Tr.awake_any _ (L1.out.over HZ.out)).mono ?_); rintro e9 w2 ⟨rfl, hb9⟩; have L2 := Lib.hid (L1.out.next hb9); clear hb9 L1)
  go_upto_region 3 with (first
    | (refine w_load (ldHb (L2.out.bx (w.heap.size) (hv s) (by simp))) rfl rfl rfl rfl ?_)
    | (refine w_load (ldKb (L2.out.bx (w.heap.size + 1) (kv k) (by simp))) rfl rfl rfl rfl ?_)
    | ((go_at_call 23); (with_reducible refine (CF.out _).mono ?_); rintro e9 w3 ⟨rfl, hb9⟩; have L3 := Lib.hid (L2.out.next hb9); clear hb9 L2))
  have q0 := (L3.out.bx (w.heap.size + 1) (kv k) (by simp)).cel 0 (.int .i64 k.ph) rfl
  go_wp2
  go_ret
  exact ⟨rfl, L3.out.bel⟩
set_option maxHeartbeats 4000000 in
theorem walk_off (s : Hs) (d : Hd_) (k : Sh.Ks) (xs : List Int) (w : World) (hf : Sh.fewK s k = true) (h5 : k.ph = 5) (hm : mayB0 s d = false) (hz : Cl.Sz w) (hp : Hp w w.heap.size s d) (hv : ∀ i, -9223372036854775808 ≤ d.ws.getD i 0 ∧ d.ws.getD i 0 ≤ 9223372036854775807) (hk : Sh.WRow w w.heap.size k xs) : Calls Tryz.prog 4 #[(.agg #[.slice s.w.a s.w.n s.w.c, .slice s.p.a s.p.n s.p.c, .slice (s.u 0).a (s.u 0).n (s.u 0).c, .slice (s.u 1).a (s.u 1).n (s.u 1).c, .slice (s.u 2).a (s.u 2).n (s.u 2).c, .slice s.c.a s.c.n s.c.c]), (.agg #[.int .i64 k.ph, .int .i64 k.ep, .bool k.mj, .slice k.wk.a k.wk.n k.wk.c, .bool k.ov, .int .i64 k.pa, .int .i64 k.pf, .int .i64 k.ps, .int .i64 k.pc, .bool k.me])] w fun e w' => e = .returned (.bool true) ∧ Below w.heap.size w w' := by
  obtain ⟨hin, hx, hwn, hlen⟩ := few_in hf hp hv hk hz
  have CM := Lib.hid (fun W (hW : Hold W (⟨s, k, d, xs⟩ : Q2)) (hz : Cl.Sz W) => pmay0_any s d W hW.h hz hin.fine)
  rw [hm] at CM
  have c1 : decide (k.ph = 5) = true := decide_eq_true h5
  have c2 : (k.ph == 5) = true := c1
  have c3 : (k.ph != 5) = false := by rw [bne, c2]; rfl
  clear hin hx hwn hlen h5 hm
  have HZ := Lib.hid hz
  have CF := Lib.hid (fun W => Tr.few_any s k W)
  rw [hf] at CF
  go_enter Tryz.func4, Tryz.ntmps4
  go_upto_region 1 with fail
  obtain ⟨W1, hW1⟩ : ∃ W1, W1 = (w.alloc (.cells #[.slice s.w.a s.w.n s.w.c, .slice s.p.a s.p.n s.p.c, .slice (s.u 0).a (s.u 0).n (s.u 0).c, .slice (s.u 1).a (s.u 1).n (s.u 1).c, .slice (s.u 2).a (s.u 2).n (s.u 2).c, .slice s.c.a s.c.n s.c.c] 28)).alloc (.cells #[.int .i64 k.ph, .int .i64 k.ep, .bool k.mj, .slice k.wk.a k.wk.n k.wk.c, .bool k.ov, .int .i64 k.pa, .int .i64 k.pf, .int .i64 k.ps, .int .i64 k.pc, .bool k.me] 30) := ⟨_, rfl⟩
  have L1 := Lib.hid (((lq_none w).two (s := s) (k := k) hW1).held (n := (⟨s, k, d, xs⟩ : Q2)) ⟨hp.next (by rw [hW1]; exact ((Below.refl _ _).alloc (Nat.le_refl _) _).alloc (by simp) _), hk.next (by rw [hW1]; exact ((Below.refl _ _).alloc (Nat.le_refl _) _).alloc (by simp) _)⟩)
  rw [← hW1]
  clear hW1 hz hp hv hk hf
  go_upto_region 2 with ((go_at_call 22); (with_reducible refine (Tr.awake_any _ (L1.out.over HZ.out)).mono ?_); rintro e9 w2 ⟨rfl, hb9⟩; have L2 := Lib.hid (L1.out.next hb9); clear hb9 L1)
  go_upto_region 3 with (first
    | (refine w_load (ldHb (L2.out.bx (w.heap.size) (hv s) (by simp))) rfl rfl rfl rfl ?_)
    | (refine w_load (ldKb (L2.out.bx (w.heap.size + 1) (kv k) (by simp))) rfl rfl rfl rfl ?_)
    | ((go_at_call 23); (with_reducible refine (CF.out _).mono ?_); rintro e9 w3 ⟨rfl, hb9⟩; have L3 := Lib.hid (L2.out.next hb9); clear hb9 L2))
  have q0 := (L3.out.bx (w.heap.size + 1) (kv k) (by simp)).cel 0 (.int .i64 k.ph) rfl
  go_upto_region 5 with (first
    | (refine w_loadg (ldHb (L3.out.bx (w.heap.size) (hv s) (by simp))) rfl (by kernel_rfl) rfl rfl ?_)
    | fail)
  refine (CM.out _ (L3.out.at _ (by simp)) (L3.out.over HZ.out)).mono ?_
  rintro e9 w4 ⟨rfl, hb9⟩
  have L4 := Lib.hid (L3.out.next hb9)
  clear hb9 L3 q0 c1 c2 c3
  go_wp2
  go_ret
  exact ⟨rfl, L4.out.bel⟩
set_option maxHeartbeats 4000000 in
theorem walk_odd (s : Hs) (d : Hd_) (k : Sh.Ks) (xs : List Int) (w : World) (hf : Sh.fewK s k = true) (h5 : k.ph = 5) (hm : mayB0 s d = true) (hkn : knownI k xs (Sh.greyL s d k.mj k.ep) = 1) (hz : Cl.Sz w) (hp : Hp w w.heap.size s d) (hv : ∀ i, -9223372036854775808 ≤ d.ws.getD i 0 ∧ d.ws.getD i 0 ≤ 9223372036854775807) (hk : Sh.WRow w w.heap.size k xs) : Calls Tryz.prog 4 #[(.agg #[.slice s.w.a s.w.n s.w.c, .slice s.p.a s.p.n s.p.c, .slice (s.u 0).a (s.u 0).n (s.u 0).c, .slice (s.u 1).a (s.u 1).n (s.u 1).c, .slice (s.u 2).a (s.u 2).n (s.u 2).c, .slice s.c.a s.c.n s.c.c]), (.agg #[.int .i64 k.ph, .int .i64 k.ep, .bool k.mj, .slice k.wk.a k.wk.n k.wk.c, .bool k.ov, .int .i64 k.pa, .int .i64 k.pf, .int .i64 k.ps, .int .i64 k.pc, .bool k.me])] w fun e w' => e = .returned (.bool true) ∧ Below w.heap.size w w' := by
  obtain ⟨hin, hx, hwn, hlen⟩ := few_in hf hp hv hk hz
  have CM := Lib.hid (fun W (hW : Hold W (⟨s, k, d, xs⟩ : Q2)) (hz : Cl.Sz W) => pmay0_any s d W hW.h hz hin.fine)
  rw [hm] at CM
  have CK := Lib.hid (fun W (hW : Hold W (⟨s, k, d, xs⟩ : Q2)) (hz : Cl.Sz W) => known_call (⟨s, k, d, xs⟩ : Q2) W ⟨hW, hz, hin.fine, hin.x⟩)
  rw [show knownI (⟨s, k, d, xs⟩ : Q2).k (⟨s, k, d, xs⟩ : Q2).xs (Sh.greyL (⟨s, k, d, xs⟩ : Q2).s (⟨s, k, d, xs⟩ : Q2).d (⟨s, k, d, xs⟩ : Q2).k.mj (⟨s, k, d, xs⟩ : Q2).k.ep) = 1 from hkn] at CK
  have c1 : decide (k.ph = 5) = true := decide_eq_true h5
  have c2 : (k.ph == 5) = true := c1
  have c3 : (k.ph != 5) = false := by rw [bne, c2]; rfl
  clear hin hx hwn hlen h5 hm hkn
  have HZ := Lib.hid hz
  have CF := Lib.hid (fun W => Tr.few_any s k W)
  rw [hf] at CF
  go_enter Tryz.func4, Tryz.ntmps4
  go_upto_region 1 with fail
  obtain ⟨W1, hW1⟩ : ∃ W1, W1 = (w.alloc (.cells #[.slice s.w.a s.w.n s.w.c, .slice s.p.a s.p.n s.p.c, .slice (s.u 0).a (s.u 0).n (s.u 0).c, .slice (s.u 1).a (s.u 1).n (s.u 1).c, .slice (s.u 2).a (s.u 2).n (s.u 2).c, .slice s.c.a s.c.n s.c.c] 28)).alloc (.cells #[.int .i64 k.ph, .int .i64 k.ep, .bool k.mj, .slice k.wk.a k.wk.n k.wk.c, .bool k.ov, .int .i64 k.pa, .int .i64 k.pf, .int .i64 k.ps, .int .i64 k.pc, .bool k.me] 30) := ⟨_, rfl⟩
  have L1 := Lib.hid (((lq_none w).two (s := s) (k := k) hW1).held (n := (⟨s, k, d, xs⟩ : Q2)) ⟨hp.next (by rw [hW1]; exact ((Below.refl _ _).alloc (Nat.le_refl _) _).alloc (by simp) _), hk.next (by rw [hW1]; exact ((Below.refl _ _).alloc (Nat.le_refl _) _).alloc (by simp) _)⟩)
  rw [← hW1]
  clear hW1 hz hp hv hk hf
  go_upto_region 2 with ((go_at_call 22); (with_reducible refine (Tr.awake_any _ (L1.out.over HZ.out)).mono ?_); rintro e9 w2 ⟨rfl, hb9⟩; have L2 := Lib.hid (L1.out.next hb9); clear hb9 L1)
  go_upto_region 3 with (first
    | (refine w_load (ldHb (L2.out.bx (w.heap.size) (hv s) (by simp))) rfl rfl rfl rfl ?_)
    | (refine w_load (ldKb (L2.out.bx (w.heap.size + 1) (kv k) (by simp))) rfl rfl rfl rfl ?_)
    | ((go_at_call 23); (with_reducible refine (CF.out _).mono ?_); rintro e9 w3 ⟨rfl, hb9⟩; have L3 := Lib.hid (L2.out.next hb9); clear hb9 L2))
  have q0 := (L3.out.bx (w.heap.size + 1) (kv k) (by simp)).cel 0 (.int .i64 k.ph) rfl
  go_upto_region 5 with (first
    | (refine w_loadg (ldHb (L3.out.bx (w.heap.size) (hv s) (by simp))) rfl (by kernel_rfl) rfl rfl ?_)
    | fail)
  refine (CM.out _ (L3.out.at _ (by simp)) (L3.out.over HZ.out)).mono ?_
  rintro e9 w4 ⟨rfl, hb9⟩
  have L4 := Lib.hid (L3.out.next hb9)
  clear hb9 L3 q0 c1 c2 c3
  go_upto_region 5 with (first
    | (refine w_loadg (ldHb (L4.out.bx (w.heap.size) (hv s) (by simp))) rfl (by kernel_rfl) rfl rfl ?_)
    | (refine w_loadg (ldKb (L4.out.bx (w.heap.size + 1) (kv k) (by simp))) rfl (by kernel_rfl) rfl rfl ?_)
    | fail)
  refine (CK.out _ (L4.out.at _ (by simp)) (L4.out.over HZ.out)).mono ?_
  rintro e9 w5 ⟨rfl, hb9⟩
  have L5 := Lib.hid (L4.out.next hb9)
  clear hb9 L4
  go_wp2
  go_ret
  exact ⟨rfl, L5.out.bel⟩
set_option maxHeartbeats 4000000 in
theorem walk_low (s : Hs) (d : Hd_) (k : Sh.Ks) (xs : List Int) (w : World) (hf : Sh.fewK s k = true) (h5 : k.ph = 5) (hm : mayB0 s d = true) (hkn : knownI k xs (Sh.greyL s d k.mj k.ep) = 0) (u o e : Bool) (N b m : Int) (hV : headV s d k.pa = .agg #[.bool u, .bool o, .bool e, .int .i64 N, .int .i64 b, .int .i64 m]) (he : headE s d k.pa = 0) (hpf : k.pf < 0) (hz : Cl.Sz w) (hp : Hp w w.heap.size s d) (hv : ∀ i, -9223372036854775808 ≤ d.ws.getD i 0 ∧ d.ws.getD i 0 ≤ 9223372036854775807) (hk : Sh.WRow w w.heap.size k xs) : Calls Tryz.prog 4 #[(.agg #[.slice s.w.a s.w.n s.w.c, .slice s.p.a s.p.n s.p.c, .slice (s.u 0).a (s.u 0).n (s.u 0).c, .slice (s.u 1).a (s.u 1).n (s.u 1).c, .slice (s.u 2).a (s.u 2).n (s.u 2).c, .slice s.c.a s.c.n s.c.c]), (.agg #[.int .i64 k.ph, .int .i64 k.ep, .bool k.mj, .slice k.wk.a k.wk.n k.wk.c, .bool k.ov, .int .i64 k.pa, .int .i64 k.pf, .int .i64 k.ps, .int .i64 k.pc, .bool k.me])] w fun e w' => e = .returned (.bool true) ∧ Below w.heap.size w w' := by
  obtain ⟨hin, hx, hwn, hlen⟩ := few_in hf hp hv hk hz
  have CM := Lib.hid (fun W (hW : Hold W (⟨s, k, d, xs⟩ : Q2)) (hz : Cl.Sz W) => pmay0_any s d W hW.h hz hin.fine)
  rw [hm] at CM
  have CK := Lib.hid (fun W (hW : Hold W (⟨s, k, d, xs⟩ : Q2)) (hz : Cl.Sz W) => known_call (⟨s, k, d, xs⟩ : Q2) W ⟨hW, hz, hin.fine, hin.x⟩)
  rw [show knownI (⟨s, k, d, xs⟩ : Q2).k (⟨s, k, d, xs⟩ : Q2).xs (Sh.greyL (⟨s, k, d, xs⟩ : Q2).s (⟨s, k, d, xs⟩ : Q2).d (⟨s, k, d, xs⟩ : Q2).k.mj (⟨s, k, d, xs⟩ : Q2).k.ep) = 0 from hkn] at CK
  have CH := Lib.hid (fun W (hW : Hold W (⟨s, k, d, xs⟩ : Q2)) (hz : Cl.Sz W) => phead_any s d k.pa W hW.h hz hin.fine)
  rw [hV, he] at CH
  have d1 : decide (k.pf < 0) = true := decide_eq_true hpf
  have c1 : decide (k.ph = 5) = true := decide_eq_true h5
  have c2 : (k.ph == 5) = true := c1
  have c3 : (k.ph != 5) = false := by rw [bne, c2]; rfl
  clear hin hx hwn hlen h5 hm hkn he hpf hV
  have HZ := Lib.hid hz
  have CF := Lib.hid (fun W => Tr.few_any s k W)
  rw [hf] at CF
  go_enter Tryz.func4, Tryz.ntmps4
  go_upto_region 1 with fail
  obtain ⟨W1, hW1⟩ : ∃ W1, W1 = (w.alloc (.cells #[.slice s.w.a s.w.n s.w.c, .slice s.p.a s.p.n s.p.c, .slice (s.u 0).a (s.u 0).n (s.u 0).c, .slice (s.u 1).a (s.u 1).n (s.u 1).c, .slice (s.u 2).a (s.u 2).n (s.u 2).c, .slice s.c.a s.c.n s.c.c] 28)).alloc (.cells #[.int .i64 k.ph, .int .i64 k.ep, .bool k.mj, .slice k.wk.a k.wk.n k.wk.c, .bool k.ov, .int .i64 k.pa, .int .i64 k.pf, .int .i64 k.ps, .int .i64 k.pc, .bool k.me] 30) := ⟨_, rfl⟩
  have L1 := Lib.hid (((lq_none w).two (s := s) (k := k) hW1).held (n := (⟨s, k, d, xs⟩ : Q2)) ⟨hp.next (by rw [hW1]; exact ((Below.refl _ _).alloc (Nat.le_refl _) _).alloc (by simp) _), hk.next (by rw [hW1]; exact ((Below.refl _ _).alloc (Nat.le_refl _) _).alloc (by simp) _)⟩)
  rw [← hW1]
  clear hW1 hz hp hv hk hf
  go_upto_region 2 with ((go_at_call 22); (with_reducible refine (Tr.awake_any _ (L1.out.over HZ.out)).mono ?_); rintro e9 w2 ⟨rfl, hb9⟩; have L2 := Lib.hid (L1.out.next hb9); clear hb9 L1)
  go_upto_region 3 with (first
    | (refine w_load (ldHb (L2.out.bx (w.heap.size) (hv s) (by simp))) rfl rfl rfl rfl ?_)
    | (refine w_load (ldKb (L2.out.bx (w.heap.size + 1) (kv k) (by simp))) rfl rfl rfl rfl ?_)
    | ((go_at_call 23); (with_reducible refine (CF.out _).mono ?_); rintro e9 w3 ⟨rfl, hb9⟩; have L3 := Lib.hid (L2.out.next hb9); clear hb9 L2))
  have q0 := (L3.out.bx (w.heap.size + 1) (kv k) (by simp)).cel 0 (.int .i64 k.ph) rfl
  go_upto_region 5 with (first
    | (refine w_loadg (ldHb (L3.out.bx (w.heap.size) (hv s) (by simp))) rfl (by kernel_rfl) rfl rfl ?_)
    | fail)
  refine (CM.out _ (L3.out.at _ (by simp)) (L3.out.over HZ.out)).mono ?_
  rintro e9 w4 ⟨rfl, hb9⟩
  have L4 := Lib.hid (L3.out.next hb9)
  clear hb9 L3 q0 c1 c2 c3
  go_upto_region 5 with (first
    | (refine w_loadg (ldHb (L4.out.bx (w.heap.size) (hv s) (by simp))) rfl (by kernel_rfl) rfl rfl ?_)
    | (refine w_loadg (ldKb (L4.out.bx (w.heap.size + 1) (kv k) (by simp))) rfl (by kernel_rfl) rfl rfl ?_)
    | fail)
  refine (CK.out _ (L4.out.at _ (by simp)) (L4.out.over HZ.out)).mono ?_
  rintro e9 w5 ⟨rfl, hb9⟩
  have L5 := Lib.hid (L4.out.next hb9)
  clear hb9 L4
  go_upto_region 5 with fail
  have q5 := (L5.out.bx (w.heap.size + 1) (kv k) (by simp)).cel 5 (.int .i64 k.pa) rfl
  go_upto_region 6 with (first
    | (refine w_load (ldHb (L5.out.bx (w.heap.size) (hv s) (by simp))) rfl rfl rfl rfl ?_)
    | ((go_at_call 26); (with_reducible refine (CH.out _ (L5.out.at _ (by simp)) (L5.out.over HZ.out)).mono ?_); rintro e9 w6 ⟨rfl, hb9⟩; have L6 := Lib.hid (L5.out.next hb9); clear hb9))
  clear q5
  have L7 := Lib.hid (L6.out.next ((Below.refl w6.heap.size w6).alloc (Nat.le_refl _) (.cells #[.bool u, .bool o, .bool e, .int .i64 N, .int .i64 b, .int .i64 m] 53)))
  have q6 := (L7.out.bx (w.heap.size + 1) (kv k) (by simp)).cel 6 (.int .i64 k.pf) rfl
  go_wp2
  go_ret
  exact ⟨rfl, L7.out.bel⟩
set_option maxHeartbeats 4000000 in
theorem walk_high (s : Hs) (d : Hd_) (k : Sh.Ks) (xs : List Int) (w : World) (hf : Sh.fewK s k = true) (h5 : k.ph = 5) (hm : mayB0 s d = true) (hkn : knownI k xs (Sh.greyL s d k.mj k.ep) = 0) (u o e : Bool) (N b m : Int) (hV : headV s d k.pa = .agg #[.bool u, .bool o, .bool e, .int .i64 N, .int .i64 b, .int .i64 m]) (he : headE s d k.pa = 0) (hpf : ¬ k.pf < 0 ∧ N ≤ k.pf) (hz : Cl.Sz w) (hp : Hp w w.heap.size s d) (hv : ∀ i, -9223372036854775808 ≤ d.ws.getD i 0 ∧ d.ws.getD i 0 ≤ 9223372036854775807) (hk : Sh.WRow w w.heap.size k xs) : Calls Tryz.prog 4 #[(.agg #[.slice s.w.a s.w.n s.w.c, .slice s.p.a s.p.n s.p.c, .slice (s.u 0).a (s.u 0).n (s.u 0).c, .slice (s.u 1).a (s.u 1).n (s.u 1).c, .slice (s.u 2).a (s.u 2).n (s.u 2).c, .slice s.c.a s.c.n s.c.c]), (.agg #[.int .i64 k.ph, .int .i64 k.ep, .bool k.mj, .slice k.wk.a k.wk.n k.wk.c, .bool k.ov, .int .i64 k.pa, .int .i64 k.pf, .int .i64 k.ps, .int .i64 k.pc, .bool k.me])] w fun e w' => e = .returned (.bool true) ∧ Below w.heap.size w w' := by
  obtain ⟨hin, hx, hwn, hlen⟩ := few_in hf hp hv hk hz
  have CM := Lib.hid (fun W (hW : Hold W (⟨s, k, d, xs⟩ : Q2)) (hz : Cl.Sz W) => pmay0_any s d W hW.h hz hin.fine)
  rw [hm] at CM
  have CK := Lib.hid (fun W (hW : Hold W (⟨s, k, d, xs⟩ : Q2)) (hz : Cl.Sz W) => known_call (⟨s, k, d, xs⟩ : Q2) W ⟨hW, hz, hin.fine, hin.x⟩)
  rw [show knownI (⟨s, k, d, xs⟩ : Q2).k (⟨s, k, d, xs⟩ : Q2).xs (Sh.greyL (⟨s, k, d, xs⟩ : Q2).s (⟨s, k, d, xs⟩ : Q2).d (⟨s, k, d, xs⟩ : Q2).k.mj (⟨s, k, d, xs⟩ : Q2).k.ep) = 0 from hkn] at CK
  have CH := Lib.hid (fun W (hW : Hold W (⟨s, k, d, xs⟩ : Q2)) (hz : Cl.Sz W) => phead_any s d k.pa W hW.h hz hin.fine)
  rw [hV, he] at CH
  have d1 : decide (k.pf < 0) = false := decide_eq_false hpf.1
  have d2 : decide (N ≤ k.pf) = true := decide_eq_true hpf.2
  have d3 : decide (k.pf ≥ N) = true := d2
  have c1 : decide (k.ph = 5) = true := decide_eq_true h5
  have c2 : (k.ph == 5) = true := c1
  have c3 : (k.ph != 5) = false := by rw [bne, c2]; rfl
  clear hin hx hwn hlen h5 hm hkn he hpf hV
  have HZ := Lib.hid hz
  have CF := Lib.hid (fun W => Tr.few_any s k W)
  rw [hf] at CF
  go_enter Tryz.func4, Tryz.ntmps4
  go_upto_region 1 with fail
  obtain ⟨W1, hW1⟩ : ∃ W1, W1 = (w.alloc (.cells #[.slice s.w.a s.w.n s.w.c, .slice s.p.a s.p.n s.p.c, .slice (s.u 0).a (s.u 0).n (s.u 0).c, .slice (s.u 1).a (s.u 1).n (s.u 1).c, .slice (s.u 2).a (s.u 2).n (s.u 2).c, .slice s.c.a s.c.n s.c.c] 28)).alloc (.cells #[.int .i64 k.ph, .int .i64 k.ep, .bool k.mj, .slice k.wk.a k.wk.n k.wk.c, .bool k.ov, .int .i64 k.pa, .int .i64 k.pf, .int .i64 k.ps, .int .i64 k.pc, .bool k.me] 30) := ⟨_, rfl⟩
  have L1 := Lib.hid (((lq_none w).two (s := s) (k := k) hW1).held (n := (⟨s, k, d, xs⟩ : Q2)) ⟨hp.next (by rw [hW1]; exact ((Below.refl _ _).alloc (Nat.le_refl _) _).alloc (by simp) _), hk.next (by rw [hW1]; exact ((Below.refl _ _).alloc (Nat.le_refl _) _).alloc (by simp) _)⟩)
  rw [← hW1]
  clear hW1 hz hp hv hk hf
  go_upto_region 2 with ((go_at_call 22); (with_reducible refine (Tr.awake_any _ (L1.out.over HZ.out)).mono ?_); rintro e9 w2 ⟨rfl, hb9⟩; have L2 := Lib.hid (L1.out.next hb9); clear hb9 L1)
  go_upto_region 3 with (first
    | (refine w_load (ldHb (L2.out.bx (w.heap.size) (hv s) (by simp))) rfl rfl rfl rfl ?_)
    | (refine w_load (ldKb (L2.out.bx (w.heap.size + 1) (kv k) (by simp))) rfl rfl rfl rfl ?_)
    | ((go_at_call 23); (with_reducible refine (CF.out _).mono ?_); rintro e9 w3 ⟨rfl, hb9⟩; have L3 := Lib.hid (L2.out.next hb9); clear hb9 L2))
  have q0 := (L3.out.bx (w.heap.size + 1) (kv k) (by simp)).cel 0 (.int .i64 k.ph) rfl
  go_upto_region 5 with (first
    | (refine w_loadg (ldHb (L3.out.bx (w.heap.size) (hv s) (by simp))) rfl (by kernel_rfl) rfl rfl ?_)
    | fail)
  refine (CM.out _ (L3.out.at _ (by simp)) (L3.out.over HZ.out)).mono ?_
  rintro e9 w4 ⟨rfl, hb9⟩
  have L4 := Lib.hid (L3.out.next hb9)
  clear hb9 L3 q0 c1 c2 c3
  go_upto_region 5 with (first
    | (refine w_loadg (ldHb (L4.out.bx (w.heap.size) (hv s) (by simp))) rfl (by kernel_rfl) rfl rfl ?_)
    | (refine w_loadg (ldKb (L4.out.bx (w.heap.size + 1) (kv k) (by simp))) rfl (by kernel_rfl) rfl rfl ?_)
    | fail)
  refine (CK.out _ (L4.out.at _ (by simp)) (L4.out.over HZ.out)).mono ?_
  rintro e9 w5 ⟨rfl, hb9⟩
  have L5 := Lib.hid (L4.out.next hb9)
  clear hb9 L4
  go_upto_region 5 with fail
  have q5 := (L5.out.bx (w.heap.size + 1) (kv k) (by simp)).cel 5 (.int .i64 k.pa) rfl
  go_upto_region 6 with (first
    | (refine w_load (ldHb (L5.out.bx (w.heap.size) (hv s) (by simp))) rfl rfl rfl rfl ?_)
    | ((go_at_call 26); (with_reducible refine (CH.out _ (L5.out.at _ (by simp)) (L5.out.over HZ.out)).mono ?_); rintro e9 w6 ⟨rfl, hb9⟩; have L6 := Lib.hid (L5.out.next hb9); clear hb9))
  clear q5
  have L7 := Lib.hid (L6.out.next ((Below.refl w6.heap.size w6).alloc (Nat.le_refl _) (.cells #[.bool u, .bool o, .bool e, .int .i64 N, .int .i64 b, .int .i64 m] 53)))
  have q6 := (L7.out.bx (w.heap.size + 1) (kv k) (by simp)).cel 6 (.int .i64 k.pf) rfl
  go_wp2
  go_ret
  exact ⟨rfl, L7.out.bel⟩
set_option maxHeartbeats 4000000 in
theorem walk_in (s : Hs) (d : Hd_) (k : Sh.Ks) (xs : List Int) (w : World) (hf : Sh.fewK s k = true) (h5 : k.ph = 5) (hm : mayB0 s d = true) (hkn : knownI k xs (Sh.greyL s d k.mj k.ep) = 0) (u o e : Bool) (N b m : Int) (hV : headV s d k.pa = .agg #[.bool u, .bool o, .bool e, .int .i64 N, .int .i64 b, .int .i64 m]) (he : headE s d k.pa = 0) (hpf : ¬ k.pf < 0 ∧ ¬ N ≤ k.pf) (hN : N = nOf (wd d k.pa)) (hz : Cl.Sz w) (hp : Hp w w.heap.size s d) (hv : ∀ i, -9223372036854775808 ≤ d.ws.getD i 0 ∧ d.ws.getD i 0 ≤ 9223372036854775807) (hk : Sh.WRow w w.heap.size k xs) : Calls Tryz.prog 4 #[(.agg #[.slice s.w.a s.w.n s.w.c, .slice s.p.a s.p.n s.p.c, .slice (s.u 0).a (s.u 0).n (s.u 0).c, .slice (s.u 1).a (s.u 1).n (s.u 1).c, .slice (s.u 2).a (s.u 2).n (s.u 2).c, .slice s.c.a s.c.n s.c.c]), (.agg #[.int .i64 k.ph, .int .i64 k.ep, .bool k.mj, .slice k.wk.a k.wk.n k.wk.c, .bool k.ov, .int .i64 k.pa, .int .i64 k.pf, .int .i64 k.ps, .int .i64 k.pc, .bool k.me])] w fun e w' => e = .returned (.bool true) ∧ Below w.heap.size w w' := by
  obtain ⟨hin, hx, hwn, hlen⟩ := few_in hf hp hv hk hz
  have CM := Lib.hid (fun W (hW : Hold W (⟨s, k, d, xs⟩ : Q2)) (hz : Cl.Sz W) => pmay0_any s d W hW.h hz hin.fine)
  rw [hm] at CM
  have CK := Lib.hid (fun W (hW : Hold W (⟨s, k, d, xs⟩ : Q2)) (hz : Cl.Sz W) => known_call (⟨s, k, d, xs⟩ : Q2) W ⟨hW, hz, hin.fine, hin.x⟩)
  rw [show knownI (⟨s, k, d, xs⟩ : Q2).k (⟨s, k, d, xs⟩ : Q2).xs (Sh.greyL (⟨s, k, d, xs⟩ : Q2).s (⟨s, k, d, xs⟩ : Q2).d (⟨s, k, d, xs⟩ : Q2).k.mj (⟨s, k, d, xs⟩ : Q2).k.ep) = 0 from hkn] at CK
  have CH := Lib.hid (fun W (hW : Hold W (⟨s, k, d, xs⟩ : Q2)) (hz : Cl.Sz W) => phead_any s d k.pa W hW.h hz hin.fine)
  rw [hV, he] at CH
  have d1 : decide (k.pf < 0) = false := decide_eq_false hpf.1
  have d2 : decide (N ≤ k.pf) = false := decide_eq_false hpf.2
  have d3 : decide (k.pf ≥ N) = false := d2
  have HPF : Hid (headE s d k.pa = 0 → 0 ≤ k.pf ∧ k.pf < nOf (wd d k.pa)) := Lib.hid (fun _ => by omega)
  have CS := Lib.hid (fun W (hW : Hold W (⟨s, k, d, xs⟩ : Q2)) (hz : Cl.Sz W) => step_any (⟨s, k, d, xs⟩ : Q2) W ⟨hW, hz, hin.fine, hin.x⟩)
  have KN0 := Lib.hid (And.intro ((known_iff s d k xs).1 hkn) (And.intro h5 hlen))
  have HX := Lib.hid hx
  have HFI := Lib.hid hin
  have c1 : decide (k.ph = 5) = true := decide_eq_true h5
  have c2 : (k.ph == 5) = true := c1
  have c3 : (k.ph != 5) = false := by rw [bne, c2]; rfl
  clear hin hx hwn hlen h5 hm hkn he hpf hV hN
  have HZ := Lib.hid hz
  have CF := Lib.hid (fun W => Tr.few_any s k W)
  rw [hf] at CF
  go_enter Tryz.func4, Tryz.ntmps4
  go_upto_region 1 with fail
  obtain ⟨W1, hW1⟩ : ∃ W1, W1 = (w.alloc (.cells #[.slice s.w.a s.w.n s.w.c, .slice s.p.a s.p.n s.p.c, .slice (s.u 0).a (s.u 0).n (s.u 0).c, .slice (s.u 1).a (s.u 1).n (s.u 1).c, .slice (s.u 2).a (s.u 2).n (s.u 2).c, .slice s.c.a s.c.n s.c.c] 28)).alloc (.cells #[.int .i64 k.ph, .int .i64 k.ep, .bool k.mj, .slice k.wk.a k.wk.n k.wk.c, .bool k.ov, .int .i64 k.pa, .int .i64 k.pf, .int .i64 k.ps, .int .i64 k.pc, .bool k.me] 30) := ⟨_, rfl⟩
  have L1 := Lib.hid (((lq_none w).two (s := s) (k := k) hW1).held (n := (⟨s, k, d, xs⟩ : Q2)) ⟨hp.next (by rw [hW1]; exact ((Below.refl _ _).alloc (Nat.le_refl _) _).alloc (by simp) _), hk.next (by rw [hW1]; exact ((Below.refl _ _).alloc (Nat.le_refl _) _).alloc (by simp) _)⟩)
  rw [← hW1]
  clear hW1 hz hp hv hk hf
  go_upto_region 2 with ((go_at_call 22); (with_reducible refine (Tr.awake_any _ (L1.out.over HZ.out)).mono ?_); rintro e9 w2 ⟨rfl, hb9⟩; have L2 := Lib.hid (L1.out.next hb9); clear hb9 L1)
  go_upto_region 3 with (first
    | (refine w_load (ldHb (L2.out.bx (w.heap.size) (hv s) (by simp))) rfl rfl rfl rfl ?_)
    | (refine w_load (ldKb (L2.out.bx (w.heap.size + 1) (kv k) (by simp))) rfl rfl rfl rfl ?_)
    | ((go_at_call 23); (with_reducible refine (CF.out _).mono ?_); rintro e9 w3 ⟨rfl, hb9⟩; have L3 := Lib.hid (L2.out.next hb9); clear hb9 L2))
  have q0 := (L3.out.bx (w.heap.size + 1) (kv k) (by simp)).cel 0 (.int .i64 k.ph) rfl
  go_upto_region 5 with (first
    | (refine w_loadg (ldHb (L3.out.bx (w.heap.size) (hv s) (by simp))) rfl (by kernel_rfl) rfl rfl ?_)
    | fail)
  refine (CM.out _ (L3.out.at _ (by simp)) (L3.out.over HZ.out)).mono ?_
  rintro e9 w4 ⟨rfl, hb9⟩
  have L4 := Lib.hid (L3.out.next hb9)
  clear hb9 L3 q0 c1 c2 c3
  go_upto_region 5 with (first
    | (refine w_loadg (ldHb (L4.out.bx (w.heap.size) (hv s) (by simp))) rfl (by kernel_rfl) rfl rfl ?_)
    | (refine w_loadg (ldKb (L4.out.bx (w.heap.size + 1) (kv k) (by simp))) rfl (by kernel_rfl) rfl rfl ?_)
    | fail)
  refine (CK.out _ (L4.out.at _ (by simp)) (L4.out.over HZ.out)).mono ?_
  rintro e9 w5 ⟨rfl, hb9⟩
  have L5 := Lib.hid (L4.out.next hb9)
  clear hb9 L4
  go_upto_region 5 with fail
  have q5 := (L5.out.bx (w.heap.size + 1) (kv k) (by simp)).cel 5 (.int .i64 k.pa) rfl
  go_upto_region 6 with (first
    | (refine w_load (ldHb (L5.out.bx (w.heap.size) (hv s) (by simp))) rfl rfl rfl rfl ?_)
    | ((go_at_call 26); (with_reducible refine (CH.out _ (L5.out.at _ (by simp)) (L5.out.over HZ.out)).mono ?_); rintro e9 w6 ⟨rfl, hb9⟩; have L6 := Lib.hid (L5.out.next hb9); clear hb9))
  clear q5
  have L7 := Lib.hid (L6.out.next ((Below.refl w6.heap.size w6).alloc (Nat.le_refl _) (.cells #[.bool u, .bool o, .bool e, .int .i64 N, .int .i64 b, .int .i64 m] 53)))
  have q6 := (L7.out.bx (w.heap.size + 1) (kv k) (by simp)).cel 6 (.int .i64 k.pf) rfl
  go_upto_region 8 with fail
  clear q6
  go_upto_region 9 with (first
    | (refine w_load (ldHb (L7.out.bx (w.heap.size) (hv s) (by simp))) rfl rfl rfl rfl ?_)
    | (refine w_load (ldKb (L7.out.bx (w.heap.size + 1) (kv k) (by simp))) rfl rfl rfl rfl ?_)
    | ((go_at_call 27); (with_reducible refine (CS.out _ (L7.out.at _ (by simp)) (L7.out.over HZ.out)).mono ?_); rintro e9 w8 ⟨z, rfl, hl9, hd9, hx9, hk9, hh9, _, hb9⟩; have L8 := Lib.hid ((L7.out.next hb9).held (n := z) hh9); have Z8 := Lib.hid (known_next (n := (⟨s, k, d, xs⟩ : Q2)) KN0.out.2.2 KN0.out.1 KN0.out.2.1 HPF.out hl9 hd9 hx9 hk9); have I8 := Lib.hid (HFI.out.step KN0.out.2.2 (by have := HX.out; show xs.length ≤ _; omega) hl9 hd9 hx9 hh9 (L8.out.over HZ.out)); clear hl9 hd9 hx9 hk9 hh9 hb9 L7))
  obtain ⟨W9, hW9⟩ : ∃ W9, W9 = (w8.alloc (.cells #[.slice z.s.w.a z.s.w.n z.s.w.c, .slice z.s.p.a z.s.p.n z.s.p.c, .slice (z.s.u 0).a (z.s.u 0).n (z.s.u 0).c, .slice (z.s.u 1).a (z.s.u 1).n (z.s.u 1).c, .slice (z.s.u 2).a (z.s.u 2).n (z.s.u 2).c, .slice z.s.c.a z.s.c.n z.s.c.c] 28)).alloc (.cells #[.int .i64 z.k.ph, .int .i64 z.k.ep, .bool z.k.mj, .slice z.k.wk.a z.k.wk.n z.k.wk.c, .bool z.k.ov, .int .i64 z.k.pa, .int .i64 z.k.pf, .int .i64 z.k.ps, .int .i64 z.k.pc, .bool z.k.me] 30) := ⟨_, rfl⟩
  have L9 := Lib.hid (L8.out.two (s := z.s) (k := z.k) hW9)
  have hb9 : Below w8.heap.size w8 W9 := by rw [hW9]; exact ((Below.refl _ _).alloc (Nat.le_refl _) _).alloc (by simp) _
  obtain ⟨b8, hb8⟩ : ∃ b8, b8 = w8.heap.size := ⟨_, rfl⟩
  rw [← hb8] at L9
  rw [← hW9, ← hb8]
  have L9 : Hid (Lq w W9 [(b8 + 1, kv z.k), (b8, hv z.s)] [z]) := Lib.hid ⟨L9.out.bel, fun x hx => L9.out.box x (by simp at hx ⊢; rcases hx with h | h <;> simp [h]), fun x hx => (L8.out.hold x (by simp at hx ⊢; simp [hx])).next hb9⟩
  clear hW9 hb9 hb8 L8
  have CK2 := Lib.hid (fun W (hW : Hold W z) (hz : Cl.Sz W) => known_call z W ⟨hW, hz, I8.out.fine, I8.out.x⟩)
  rw [Z8.out.1] at CK2
  go_upto_region 11 with (first
    | (refine w_load (ldHb (L9.out.bx (b8) (hv z.s) (by simp))) rfl rfl rfl rfl ?_)
    | (refine w_load (ldKb (L9.out.bx (b8 + 1) (kv z.k) (by simp))) rfl rfl rfl rfl ?_)
    | ((go_at_call 25); (with_reducible refine (CK2.out _ (L9.out.at z (by simp)) (L9.out.over HZ.out)).mono ?_); rintro e9 w10 ⟨rfl, hb9⟩; have LA := Lib.hid (L9.out.next hb9); clear hb9))
  have q0 := (LA.out.bx (b8 + 1) (kv z.k) (by simp)).cel 0 (.int .i64 z.k.ph) rfl
  by_cases h6 : z.k.ph = 6
  · have c1 : decide (z.k.ph = 6) = true := decide_eq_true h6
    have c2 : (z.k.ph == 6) = true := c1
    have c3 : (z.k.ph != 6) = false := by rw [bne, c2]; rfl
    have CG := Lib.hid (fun W (hW : Hold W z) (hz : Cl.Sz W) => Sh.grey_any z.s z.d z.k z.xs W hW.h hW.c hz I8.out.fine)
    rw [Z8.out.2 h6] at CG
    clear h6
    go_wp2_with (first
      | (refine w_loadg (ldHb (LA.out.bx (b8) (hv z.s) (by simp))) rfl (by kernel_rfl) rfl rfl ?_)
      | (refine w_loadg (ldKb (LA.out.bx (b8 + 1) (kv z.k) (by simp))) rfl (by kernel_rfl) rfl rfl ?_))
    refine (CG.out _ (LA.out.at z (by simp)) (LA.out.over HZ.out)).mono ?_
    rintro e9 w11 ⟨⟨ga, gn, gc⟩, rfl, ho9, hb9⟩
    have LB := Lib.hid (LA.out.next hb9)
    obtain rfl : gn = 0 := by
      have h9 := ho9.1
      simpa using h9.symm
    clear hb9 ho9
    go_wp2
    go_ret
    exact ⟨rfl, LB.out.bel⟩
  · have c1 : decide (z.k.ph = 6) = false := decide_eq_false h6
    have c2 : (z.k.ph == 6) = false := c1
    have c3 : (z.k.ph != 6) = true := by rw [bne, c2]; rfl
    clear h6
    go_wp2
    go_ret
    exact ⟨rfl, LA.out.bel⟩
set_option maxHeartbeats 4000000 in
theorem walk_none (s : Hs) (d : Hd_) (k : Sh.Ks) (xs : List Int) (w : World) (hf : Sh.fewK s k = true) (h5 : k.ph = 5) (hm : mayB0 s d = true) (hkn : knownI k xs (Sh.greyL s d k.mj k.ep) = 0) (u o e : Bool) (N b m : Int) (hV : headV s d k.pa = .agg #[.bool u, .bool o, .bool e, .int .i64 N, .int .i64 b, .int .i64 m]) (er : Int) (he : headE s d k.pa = er) (h0 : ¬ er = 0) (hz : Cl.Sz w) (hp : Hp w w.heap.size s d) (hv : ∀ i, -9223372036854775808 ≤ d.ws.getD i 0 ∧ d.ws.getD i 0 ≤ 9223372036854775807) (hk : Sh.WRow w w.heap.size k xs) : Calls Tryz.prog 4 #[(.agg #[.slice s.w.a s.w.n s.w.c, .slice s.p.a s.p.n s.p.c, .slice (s.u 0).a (s.u 0).n (s.u 0).c, .slice (s.u 1).a (s.u 1).n (s.u 1).c, .slice (s.u 2).a (s.u 2).n (s.u 2).c, .slice s.c.a s.c.n s.c.c]), (.agg #[.int .i64 k.ph, .int .i64 k.ep, .bool k.mj, .slice k.wk.a k.wk.n k.wk.c, .bool k.ov, .int .i64 k.pa, .int .i64 k.pf, .int .i64 k.ps, .int .i64 k.pc, .bool k.me])] w fun e w' => e = .returned (.bool true) ∧ Below w.heap.size w w' := by
  obtain ⟨hin, hx, hwn, hlen⟩ := few_in hf hp hv hk hz
  have CM := Lib.hid (fun W (hW : Hold W (⟨s, k, d, xs⟩ : Q2)) (hz : Cl.Sz W) => pmay0_any s d W hW.h hz hin.fine)
  rw [hm] at CM
  have CK := Lib.hid (fun W (hW : Hold W (⟨s, k, d, xs⟩ : Q2)) (hz : Cl.Sz W) => known_call (⟨s, k, d, xs⟩ : Q2) W ⟨hW, hz, hin.fine, hin.x⟩)
  rw [show knownI (⟨s, k, d, xs⟩ : Q2).k (⟨s, k, d, xs⟩ : Q2).xs (Sh.greyL (⟨s, k, d, xs⟩ : Q2).s (⟨s, k, d, xs⟩ : Q2).d (⟨s, k, d, xs⟩ : Q2).k.mj (⟨s, k, d, xs⟩ : Q2).k.ep) = 0 from hkn] at CK
  have CH := Lib.hid (fun W (hW : Hold W (⟨s, k, d, xs⟩ : Q2)) (hz : Cl.Sz W) => phead_any s d k.pa W hW.h hz hin.fine)
  rw [hV, he] at CH
  have d1 : (er == 0) = false := decide_eq_false h0
  have d2 : decide (er = 0) = false := d1
  have HPF : Hid (headE s d k.pa = 0 → 0 ≤ k.pf ∧ k.pf < nOf (wd d k.pa)) := Lib.hid (fun hh => absurd (he.symm.trans hh) h0)
  have CS := Lib.hid (fun W (hW : Hold W (⟨s, k, d, xs⟩ : Q2)) (hz : Cl.Sz W) => step_any (⟨s, k, d, xs⟩ : Q2) W ⟨hW, hz, hin.fine, hin.x⟩)
  have KN0 := Lib.hid (And.intro ((known_iff s d k xs).1 hkn) (And.intro h5 hlen))
  have HX := Lib.hid hx
  have HFI := Lib.hid hin
  have c1 : decide (k.ph = 5) = true := decide_eq_true h5
  have c2 : (k.ph == 5) = true := c1
  have c3 : (k.ph != 5) = false := by rw [bne, c2]; rfl
  clear hin hx hwn hlen h5 hm hkn he hV h0
  have HZ := Lib.hid hz
  have CF := Lib.hid (fun W => Tr.few_any s k W)
  rw [hf] at CF
  go_enter Tryz.func4, Tryz.ntmps4
  go_upto_region 1 with fail
  obtain ⟨W1, hW1⟩ : ∃ W1, W1 = (w.alloc (.cells #[.slice s.w.a s.w.n s.w.c, .slice s.p.a s.p.n s.p.c, .slice (s.u 0).a (s.u 0).n (s.u 0).c, .slice (s.u 1).a (s.u 1).n (s.u 1).c, .slice (s.u 2).a (s.u 2).n (s.u 2).c, .slice s.c.a s.c.n s.c.c] 28)).alloc (.cells #[.int .i64 k.ph, .int .i64 k.ep, .bool k.mj, .slice k.wk.a k.wk.n k.wk.c, .bool k.ov, .int .i64 k.pa, .int .i64 k.pf, .int .i64 k.ps, .int .i64 k.pc, .bool k.me] 30) := ⟨_, rfl⟩
  have L1 := Lib.hid (((lq_none w).two (s := s) (k := k) hW1).held (n := (⟨s, k, d, xs⟩ : Q2)) ⟨hp.next (by rw [hW1]; exact ((Below.refl _ _).alloc (Nat.le_refl _) _).alloc (by simp) _), hk.next (by rw [hW1]; exact ((Below.refl _ _).alloc (Nat.le_refl _) _).alloc (by simp) _)⟩)
  rw [← hW1]
  clear hW1 hz hp hv hk hf
  go_upto_region 2 with ((go_at_call 22); (with_reducible refine (Tr.awake_any _ (L1.out.over HZ.out)).mono ?_); rintro e9 w2 ⟨rfl, hb9⟩; have L2 := Lib.hid (L1.out.next hb9); clear hb9 L1)
  go_upto_region 3 with (first
    | (refine w_load (ldHb (L2.out.bx (w.heap.size) (hv s) (by simp))) rfl rfl rfl rfl ?_)
    | (refine w_load (ldKb (L2.out.bx (w.heap.size + 1) (kv k) (by simp))) rfl rfl rfl rfl ?_)
    | ((go_at_call 23); (with_reducible refine (CF.out _).mono ?_); rintro e9 w3 ⟨rfl, hb9⟩; have L3 := Lib.hid (L2.out.next hb9); clear hb9 L2))
  have q0 := (L3.out.bx (w.heap.size + 1) (kv k) (by simp)).cel 0 (.int .i64 k.ph) rfl
  go_upto_region 5 with (first
    | (refine w_loadg (ldHb (L3.out.bx (w.heap.size) (hv s) (by simp))) rfl (by kernel_rfl) rfl rfl ?_)
    | fail)
  refine (CM.out _ (L3.out.at _ (by simp)) (L3.out.over HZ.out)).mono ?_
  rintro e9 w4 ⟨rfl, hb9⟩
  have L4 := Lib.hid (L3.out.next hb9)
  clear hb9 L3 q0 c1 c2 c3
  go_upto_region 5 with (first
    | (refine w_loadg (ldHb (L4.out.bx (w.heap.size) (hv s) (by simp))) rfl (by kernel_rfl) rfl rfl ?_)
    | (refine w_loadg (ldKb (L4.out.bx (w.heap.size + 1) (kv k) (by simp))) rfl (by kernel_rfl) rfl rfl ?_)
    | fail)
  refine (CK.out _ (L4.out.at _ (by simp)) (L4.out.over HZ.out)).mono ?_
  rintro e9 w5 ⟨rfl, hb9⟩
  have L5 := Lib.hid (L4.out.next hb9)
  clear hb9 L4
  go_upto_region 5 with fail
  have q5 := (L5.out.bx (w.heap.size + 1) (kv k) (by simp)).cel 5 (.int .i64 k.pa) rfl
  go_upto_region 6 with (first
    | (refine w_load (ldHb (L5.out.bx (w.heap.size) (hv s) (by simp))) rfl rfl rfl rfl ?_)
    | ((go_at_call 26); (with_reducible refine (CH.out _ (L5.out.at _ (by simp)) (L5.out.over HZ.out)).mono ?_); rintro e9 w6 ⟨rfl, hb9⟩; have L6 := Lib.hid (L5.out.next hb9); clear hb9))
  clear q5
  have L7 := Lib.hid (L6.out.next ((Below.refl w6.heap.size w6).alloc (Nat.le_refl _) (.cells #[.bool u, .bool o, .bool e, .int .i64 N, .int .i64 b, .int .i64 m] 53)))
  have q6 := (L7.out.bx (w.heap.size + 1) (kv k) (by simp)).cel 6 (.int .i64 k.pf) rfl
  go_upto_region 8 with fail
  clear q6
  go_upto_region 9 with (first
    | (refine w_load (ldHb (L7.out.bx (w.heap.size) (hv s) (by simp))) rfl rfl rfl rfl ?_)
    | (refine w_load (ldKb (L7.out.bx (w.heap.size + 1) (kv k) (by simp))) rfl rfl rfl rfl ?_)
    | ((go_at_call 27); (with_reducible refine (CS.out _ (L7.out.at _ (by simp)) (L7.out.over HZ.out)).mono ?_); rintro e9 w8 ⟨z, rfl, hl9, hd9, hx9, hk9, hh9, _, hb9⟩; have L8 := Lib.hid ((L7.out.next hb9).held (n := z) hh9); have Z8 := Lib.hid (known_next (n := (⟨s, k, d, xs⟩ : Q2)) KN0.out.2.2 KN0.out.1 KN0.out.2.1 HPF.out hl9 hd9 hx9 hk9); have I8 := Lib.hid (HFI.out.step KN0.out.2.2 (by have := HX.out; show xs.length ≤ _; omega) hl9 hd9 hx9 hh9 (L8.out.over HZ.out)); clear hl9 hd9 hx9 hk9 hh9 hb9 L7))
  obtain ⟨W9, hW9⟩ : ∃ W9, W9 = (w8.alloc (.cells #[.slice z.s.w.a z.s.w.n z.s.w.c, .slice z.s.p.a z.s.p.n z.s.p.c, .slice (z.s.u 0).a (z.s.u 0).n (z.s.u 0).c, .slice (z.s.u 1).a (z.s.u 1).n (z.s.u 1).c, .slice (z.s.u 2).a (z.s.u 2).n (z.s.u 2).c, .slice z.s.c.a z.s.c.n z.s.c.c] 28)).alloc (.cells #[.int .i64 z.k.ph, .int .i64 z.k.ep, .bool z.k.mj, .slice z.k.wk.a z.k.wk.n z.k.wk.c, .bool z.k.ov, .int .i64 z.k.pa, .int .i64 z.k.pf, .int .i64 z.k.ps, .int .i64 z.k.pc, .bool z.k.me] 30) := ⟨_, rfl⟩
  have L9 := Lib.hid (L8.out.two (s := z.s) (k := z.k) hW9)
  have hb9 : Below w8.heap.size w8 W9 := by rw [hW9]; exact ((Below.refl _ _).alloc (Nat.le_refl _) _).alloc (by simp) _
  obtain ⟨b8, hb8⟩ : ∃ b8, b8 = w8.heap.size := ⟨_, rfl⟩
  rw [← hb8] at L9
  rw [← hW9, ← hb8]
  have L9 : Hid (Lq w W9 [(b8 + 1, kv z.k), (b8, hv z.s)] [z]) := Lib.hid ⟨L9.out.bel, fun x hx => L9.out.box x (by simp at hx ⊢; rcases hx with h | h <;> simp [h]), fun x hx => (L8.out.hold x (by simp at hx ⊢; simp [hx])).next hb9⟩
  clear hW9 hb9 hb8 L8
  have CK2 := Lib.hid (fun W (hW : Hold W z) (hz : Cl.Sz W) => known_call z W ⟨hW, hz, I8.out.fine, I8.out.x⟩)
  rw [Z8.out.1] at CK2
  go_upto_region 11 with (first
    | (refine w_load (ldHb (L9.out.bx (b8) (hv z.s) (by simp))) rfl rfl rfl rfl ?_)
    | (refine w_load (ldKb (L9.out.bx (b8 + 1) (kv z.k) (by simp))) rfl rfl rfl rfl ?_)
    | ((go_at_call 25); (with_reducible refine (CK2.out _ (L9.out.at z (by simp)) (L9.out.over HZ.out)).mono ?_); rintro e9 w10 ⟨rfl, hb9⟩; have LA := Lib.hid (L9.out.next hb9); clear hb9))
  have q0 := (LA.out.bx (b8 + 1) (kv z.k) (by simp)).cel 0 (.int .i64 z.k.ph) rfl
  by_cases h6 : z.k.ph = 6
  · have c1 : decide (z.k.ph = 6) = true := decide_eq_true h6
    have c2 : (z.k.ph == 6) = true := c1
    have c3 : (z.k.ph != 6) = false := by rw [bne, c2]; rfl
    have CG := Lib.hid (fun W (hW : Hold W z) (hz : Cl.Sz W) => Sh.grey_any z.s z.d z.k z.xs W hW.h hW.c hz I8.out.fine)
    rw [Z8.out.2 h6] at CG
    clear h6
    go_wp2_with (first
      | (refine w_loadg (ldHb (LA.out.bx (b8) (hv z.s) (by simp))) rfl (by kernel_rfl) rfl rfl ?_)
      | (refine w_loadg (ldKb (LA.out.bx (b8 + 1) (kv z.k) (by simp))) rfl (by kernel_rfl) rfl rfl ?_))
    refine (CG.out _ (LA.out.at z (by simp)) (LA.out.over HZ.out)).mono ?_
    rintro e9 w11 ⟨⟨ga, gn, gc⟩, rfl, ho9, hb9⟩
    have LB := Lib.hid (LA.out.next hb9)
    obtain rfl : gn = 0 := by
      have h9 := ho9.1
      simpa using h9.symm
    clear hb9 ho9
    go_wp2
    go_ret
    exact ⟨rfl, LB.out.bel⟩
  · have c1 : decide (z.k.ph = 6) = false := decide_eq_false h6
    have c2 : (z.k.ph == 6) = false := c1
    have c3 : (z.k.ph != 6) = true := by rw [bne, c2]; rfl
    clear h6
    go_wp2
    go_ret
    exact ⟨rfl, LA.out.bel⟩
theorem walk (s : Hs) (d : Hd_) (k : Sh.Ks) (xs : List Int) (w : World) (hz : Cl.Sz w) (hp : Hp w w.heap.size s d) (hv : Fit64 d.ws) (_ : s.p.n ≤ s.p.c) (hk : Sh.WRow w w.heap.size k xs) (_ : k.wk.n ≤ k.wk.c) (_ : k.wk.c ≤ maxLen) (_ : (Lit.int .i64 k.ep).wf = true) : Calls Tryz.prog 4 #[(.agg #[.slice s.w.a s.w.n s.w.c, .slice s.p.a s.p.n s.p.c, .slice (s.u 0).a (s.u 0).n (s.u 0).c, .slice (s.u 1).a (s.u 1).n (s.u 1).c, .slice (s.u 2).a (s.u 2).n (s.u 2).c, .slice s.c.a s.c.n s.c.c]), (.agg #[.int .i64 k.ph, .int .i64 k.ep, .bool k.mj, .slice k.wk.a k.wk.n k.wk.c, .bool k.ov, .int .i64 k.pa, .int .i64 k.pf, .int .i64 k.ps, .int .i64 k.pc, .bool k.me])] w fun e w' => e = .returned (.bool true) ∧ Below w.heap.size w w' := by
  cases hf : Sh.fewK s k
  · exact walk_few s d k xs w hf hz hp hv hk
  · by_cases h5 : k.ph = 5
    · cases hm : mayB0 s d
      · exact walk_off s d k xs w hf h5 hm hz hp hv hk
      · rcases known_two k xs (Sh.greyL s d k.mj k.ep) with hkn | hkn
        · by_cases he : headE s d k.pa = 0
          · have hV := (Sh.obj_of he).val
            by_cases h1 : k.pf < 0
            · exact walk_low s d k xs w hf h5 hm hkn _ _ _ _ _ _ hV he h1 hz hp hv hk
            · by_cases h2 : nOf (wd d k.pa) ≤ k.pf
              · exact walk_high s d k xs w hf h5 hm hkn _ _ _ _ _ _ hV he ⟨h1, h2⟩ hz hp hv hk
              · exact walk_in s d k xs w hf h5 hm hkn _ _ _ _ _ _ hV he ⟨h1, h2⟩ rfl hz hp hv hk
          · obtain ⟨u, o, e, n, b, m, hV⟩ := head_form s d k.pa
            exact walk_none s d k xs w hf h5 hm hkn _ _ _ _ _ _ hV _ rfl he hz hp hv hk
        · exact walk_odd s d k xs w hf h5 hm hkn hz hp hv hk
    · exact walk_other s d k xs w hf h5 hz hp hv hk
-- the frame (hp16frame.py)
set_option maxRecDepth 100000 in
theorem lifted (os : Os) (started : os.Started) (H : Type) (enc : TypeId × Value → H) :
    ReturnsInHanded {} Tryz.checked os 4 .any (fun w args => (Rows.traceKnowsSpec.pre enc Tryz.prog Tryz.f4 [] false w args ∧ laidMetH Tryz.prog laidSizes w) ∧ sizedMet enc Tryz.prog Tryz.f4 (OpenSpec.ofChange Rows.traceKnowsSpec) false w args)
      (Rows.traceKnowsSpec.post enc Tryz.prog Tryz.f4 false true false false) := by
  refine returnsInHanded_of_change_and (C := Tryz.checked) (X := fun w _ => laidMetH Tryz.prog laidSizes w) (fun _ _ _ hh h => h.of_heap hh) own started (by kernel_rfl) Tryz.func4
    (ChangeSpec.witness_shaped (enc := enc) (C := Tryz.checked) (os := os) (X := fun w _ => laidMetH Tryz.prog laidSizes w) false (World.doorLaid Tryz.prog 400 os) #[.agg #[.slice none 0 0, .slice none 0 0, .slice none 0 0, .slice none 0 0, .slice none 0 0, .slice none 0 0], .agg #[.int .i64 0, .int .i64 0, .bool false, .slice none 0 0, .bool false, .int .i64 0, .int .i64 0, .int .i64 0, .int .i64 0, .bool false]] 8 rfl (World.shaped_of_RefB (by kernel_rfl) (by kernel_rfl)) (by kernel_rfl) (by kernel_rfl) (by kernel_rfl) (door_met os _)) ?_
  intro W base args ds gs before hval0 hW _ _ hL _
  have hval : ∀ (j : Nat) t v, Tryz.f4.params[j]? = some t → args[j]? = some v → Value.okWide Tryz.prog W .any base t v := hval0
  have hW' := hW
  obtain ⟨p, q, hA0, hV, rfl, hfz, hnd⟩ := hW
  have hA : DataW.TrodAll enc Tryz.prog W 0 (fun _ => true) true Tryz.f4.params.toList args.toList ds p := hA0
  rw [Tryz.params4] at hA hval
  obtain ⟨v0, vs0, d0, ds0, p0, q0, hargs, rfl, rfl, h0, r0⟩ := trodAll_cons hA
  obtain ⟨v1, vs1, d1, ds1, p1, q1, rfl, rfl, rfl, h1, r1⟩ := trodAll_cons r0
  obtain ⟨rfl, rfl, rfl⟩ := trodAll_nil r1
  obtain rfl : args = #[v0, v1] := by cases args; simp_all
  obtain ⟨rfl, rfl⟩ := trodVars_none hV
  have k0 := h0
  have lt0 : ∀ x ∈ p0, x.block < W.heap.size := by obtain ⟨m, hm⟩ := k0; exact DataW.trod_lt m _ _ _ hm
  obtain ⟨s0, z0, rfl, w0, f0, b0⟩ := heap_of8 (hval 0 28 v0 rfl rfl) h0
  have k1 := h1
  have lt1 : ∀ x ∈ p1, x.block < W.heap.size := by obtain ⟨m, hm⟩ := k1; exact DataW.trod_lt m _ _ _ hm
  obtain ⟨k1', z1, rfl, w1, m1, x1, f1⟩ := Sh.col_of (hval 1 30 v1 rfl rfl) h1
  clear hA0 hval0
  refine (walk s0 z0 k1' z1 W (of_laid hL) w0 f0 b0 w1 m1 x1 f1).mono fun e W' ⟨he, bel⟩ => ?_
  subst he
  exact ⟨_, rfl, _, _, _, [], _, [], hW', trodAll_mk1 (shut_bool Tryz.underlying4 _), (trodAll_cons_mk (Below.trod laidOut (by kernel_rfl) (of_decide_eq_true (by kernel_rfl)) k0 bel lt0) (trodAll_cons_mk (Below.trod laidOut (by kernel_rfl) (of_decide_eq_true (by kernel_rfl)) k1 bel lt1) trodAll_mk0)), rfl, bel.frame _, fun h => by cases h⟩

theorem over : Rows.TraceKnowsSaid :=
  OpenClaim.holds_of_wide 4 Tryz.f4 rfl rfl rfl rfl rfl rfl rfl ⟨rfl, rfl, rfl, rfl, rfl⟩ rfl rfl rfl rfl rfl (by kernel_rfl) Tryz.func4 (by kernel_rfl)
    (of_decide_eq_true (by kernel_rfl)) (by unfold Func.isWrapper; first | (rw [if_pos (by decide +kernel)]; kernel_rfl) | (rw [if_neg (by decide +kernel)]; exact ⟨rfl, rfl⟩))
    (fun os started H enc _ => lifted os started H enc)

/-- The statement: the card. -/
theorem proved : Rows.TraceKnowsCardSaid :=
  Claim7.holds_tied_plain_at .later [] [.data] true Rows.traceKnowsCard.stood.harness false
    over (fun _ h => by cases h) (by kernel_rfl) (fun _ h => by cases h) traceKnows_row_tie rfl ⟨rfl, rfl⟩ (by kernel_rfl) rfl
    (fun f fn hf hfn => by
      obtain rfl : f = 4 := Option.some.inj ((show Tryz.prog.funcNamed "ragpicker/ragpickerlaw16.TraceKnows" = some 4 by kernel_rfl).symm.trans hf) |>.symm
      obtain rfl : fn = Tryz.f4 := (Option.some.inj (Tryz.func4.symm.trans hfn)).symm
      exact ⟨by kernel_rfl, fun j t ht => by
        rw [Tryz.params4] at ht
        have hm : t ∈ [28, 30] := by simpa using Array.mem_of_getElem? ht
        have hall : ([28, 30].all fun u => !Tryz.prog.wantsStandIn u) = true := by kernel_rfl
        exact (show Tryz.prog.wantsStandIn t = false by simpa using List.all_eq_true.1 hall t hm)⟩)
    (by kernel_rfl)
#print axioms proved
end Go.Proofs.YtccjelpfmkbmiaaGreatDoor.TraceKnows
