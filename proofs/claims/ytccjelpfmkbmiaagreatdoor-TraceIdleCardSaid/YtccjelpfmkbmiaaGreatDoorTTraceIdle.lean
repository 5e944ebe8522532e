/-
  TraceIdle: in any other phase, or of a heap that may not be, a step changes nothing: for every heap of at most 9 pages and 130 words, and every work list of at most 100; the table of sizes is tied to the program's text by the card.
-/
import Derived.Test.YtccjelpfmkbmiaaGreatDoorTTrAwake
import Derived.Test.YtccjelpfmkbmiaaGreatDoorHpTJ
import Derived.Deep.Cut
import Derived.Deep.CutRange
import Derived.Deep.QuietTactic
import Derived.BigQuiet
namespace Go.Proofs.YtccjelpfmkbmiaaGreatDoor.TraceIdle
open Go.Proofs.YtccjelpfmkbmiaaGreatDoor Go.Proofs.YtccjelpfmkbmiaaGreatDoor.Rt Go.Proofs.YtccjelpfmkbmiaaGreatDoor.Tr
open Go.ChangeShapes Go.WideShapes Go.ChangeAt Go.RowKit Go.Deep
open Go.Proofs.YtccjelpfmkbmiaaGreatDoor.Mu (hv kv w_load w_store w_loadg ldHb ldKb stHb stKb st_int ld_int noHs0 noK0)
set_option maxRecDepth 100000

set_option maxHeartbeats 1000000 in
theorem walk_few (s : Hs) (d : Hd_) (k : Sh.Ks) (xs : List Int) (w : World) (hf : Sh.fewK s k = false) (hz : Cl.Sz w) (hp : Hp w w.heap.size s d) (_ : ∀ i, -9223372036854775808 ≤ d.ws.getD i 0 ∧ d.ws.getD i 0 ≤ 9223372036854775807) (hk : Sh.WRow w w.heap.size k xs) : Calls Tryz.prog 8 #[(.agg #[.slice s.w.a s.w.n s.w.c, .slice s.p.a s.p.n s.p.c, .slice (s.u 0).a (s.u 0).n (s.u 0).c, .slice (s.u 1).a (s.u 1).n (s.u 1).c, .slice (s.u 2).a (s.u 2).n (s.u 2).c, .slice s.c.a s.c.n s.c.c]), (.agg #[.int .i64 k.ph, .int .i64 k.ep, .bool k.mj, .slice k.wk.a k.wk.n k.wk.c, .bool k.ov, .int .i64 k.pa, .int .i64 k.pf, .int .i64 k.ps, .int .i64 k.pc, .bool k.me])] w fun e w' => e = .returned (.bool true) ∧ Below w.heap.size w w' := by
  have HZ := Lib.hid hz
  have CF := Lib.hid (fun W => Tr.few_any s k W)
  rw [hf] at CF
  go_enter Tryz.func8, Tryz.ntmps8
  go_upto_region 1 with fail
  obtain ⟨W1, hW1⟩ : ∃ W1, W1 = (w.alloc (.cells #[.slice s.w.a s.w.n s.w.c, .slice s.p.a s.p.n s.p.c, .slice (s.u 0).a (s.u 0).n (s.u 0).c, .slice (s.u 1).a (s.u 1).n (s.u 1).c, .slice (s.u 2).a (s.u 2).n (s.u 2).c, .slice s.c.a s.c.n s.c.c] 28)).alloc (.cells #[.int .i64 k.ph, .int .i64 k.ep, .bool k.mj, .slice k.wk.a k.wk.n k.wk.c, .bool k.ov, .int .i64 k.pa, .int .i64 k.pf, .int .i64 k.ps, .int .i64 k.pc, .bool k.me] 30) := ⟨_, rfl⟩
  have L1 := Lib.hid (((lq_none w).two (s := s) (k := k) hW1).held (n := (⟨s, k, d, xs⟩ : Q2)) ⟨hp.next (by rw [hW1]; exact ((Below.refl _ _).alloc (Nat.le_refl _) _).alloc (by simp) _), hk.next (by rw [hW1]; exact ((Below.refl _ _).alloc (Nat.le_refl _) _).alloc (by simp) _)⟩)
  rw [← hW1]
  clear hW1 hz hp hk hf
  go_upto_region 2 with ((go_at_call 22); (with_reducible refine (Tr.awake_any _ (L1.out.over HZ.out)).mono ?_); rintro e9 w2 ⟨rfl, hb9⟩; have L2 := Lib.hid (L1.out.next hb9); clear hb9 L1)
  go_upto_region 3 with (first
    | (refine w_load (ldHb (L2.out.bx (w.heap.size) (hv s) (by simp))) rfl rfl rfl rfl ?_)
    | (refine w_load (ldKb (L2.out.bx (w.heap.size + 1) (kv k) (by simp))) rfl rfl rfl rfl ?_)
    | ((go_at_call 23); (with_reducible refine (CF.out _).mono ?_); rintro e9 w3 ⟨rfl, hb9⟩; have L3 := Lib.hid (L2.out.next hb9); clear hb9 L2))
  go_wp2
  go_ret
  exact ⟨rfl, L3.out.bel⟩
set_option maxHeartbeats 4000000 in
theorem walk_on (s : Hs) (d : Hd_) (k : Sh.Ks) (xs : List Int) (w : World) (hf : Sh.fewK s k = true) (h5 : k.ph = 5) (hm : mayB0 s d = true) (hz : Cl.Sz w) (hp : Hp w w.heap.size s d) (hv : ∀ i, -9223372036854775808 ≤ d.ws.getD i 0 ∧ d.ws.getD i 0 ≤ 9223372036854775807) (hk : Sh.WRow w w.heap.size k xs) : Calls Tryz.prog 8 #[(.agg #[.slice s.w.a s.w.n s.w.c, .slice s.p.a s.p.n s.p.c, .slice (s.u 0).a (s.u 0).n (s.u 0).c, .slice (s.u 1).a (s.u 1).n (s.u 1).c, .slice (s.u 2).a (s.u 2).n (s.u 2).c, .slice s.c.a s.c.n s.c.c]), (.agg #[.int .i64 k.ph, .int .i64 k.ep, .bool k.mj, .slice k.wk.a k.wk.n k.wk.c, .bool k.ov, .int .i64 k.pa, .int .i64 k.pf, .int .i64 k.ps, .int .i64 k.pc, .bool k.me])] w fun e w' => e = .returned (.bool true) ∧ Below w.heap.size w w' := by
  obtain ⟨hin, hx, hwn, hlen⟩ := few_in hf hp hv hk hz
  have HI := Lib.hid hin
  have HX := Lib.hid hx
  have CM := Lib.hid (fun W (hW : Hold W (⟨s, k, d, xs⟩ : Q2)) (hz : Cl.Sz W) => pmay0_any s d W hW.h hz hin.fine)
  rw [hm] at CM
  have c1 : decide (k.ph = 5) = true := decide_eq_true h5
  have c2 : (k.ph == 5) = true := c1
  have c3 : (k.ph != 5) = false := by rw [bne, c2]; rfl
  clear hin hx hwn hlen h5 hm
  have HZ := Lib.hid hz
  have CF := Lib.hid (fun W => Tr.few_any s k W)
  rw [hf] at CF
  go_enter Tryz.func8, Tryz.ntmps8
  go_upto_region 1 with fail
  obtain ⟨W1, hW1⟩ : ∃ W1, W1 = (w.alloc (.cells #[.slice s.w.a s.w.n s.w.c, .slice s.p.a s.p.n s.p.c, .slice (s.u 0).a (s.u 0).n (s.u 0).c, .slice (s.u 1).a (s.u 1).n (s.u 1).c, .slice (s.u 2).a (s.u 2).n (s.u 2).c, .slice s.c.a s.c.n s.c.c] 28)).alloc (.cells #[.int .i64 k.ph, .int .i64 k.ep, .bool k.mj, .slice k.wk.a k.wk.n k.wk.c, .bool k.ov, .int .i64 k.pa, .int .i64 k.pf, .int .i64 k.ps, .int .i64 k.pc, .bool k.me] 30) := ⟨_, rfl⟩
  have L1 := Lib.hid (((lq_none w).two (s := s) (k := k) hW1).held (n := (⟨s, k, d, xs⟩ : Q2)) ⟨hp.next (by rw [hW1]; exact ((Below.refl _ _).alloc (Nat.le_refl _) _).alloc (by simp) _), hk.next (by rw [hW1]; exact ((Below.refl _ _).alloc (Nat.le_refl _) _).alloc (by simp) _)⟩)
  rw [← hW1]
  clear hW1 hz hp hv hk hf
  go_upto_region 2 with ((go_at_call 22); (with_reducible refine (Tr.awake_any _ (L1.out.over HZ.out)).mono ?_); rintro e9 w2 ⟨rfl, hb9⟩; have L2 := Lib.hid (L1.out.next hb9); clear hb9 L1)
  go_upto_region 3 with (first
    | (refine w_load (ldHb (L2.out.bx (w.heap.size) (hv s) (by simp))) rfl rfl rfl rfl ?_)
    | (refine w_load (ldKb (L2.out.bx (w.heap.size + 1) (kv k) (by simp))) rfl rfl rfl rfl ?_)
    | ((go_at_call 23); (with_reducible refine (CF.out _).mono ?_); rintro e9 w3 ⟨rfl, hb9⟩; have L3 := Lib.hid (L2.out.next hb9); clear hb9 L2))
  have q0 := (L3.out.bx (w.heap.size + 1) (kv k) (by simp)).cel 0 (.int .i64 k.ph) rfl
  go_wp2_with (first
    | (refine w_loadg (ldHb (L3.out.bx (w.heap.size) (hv s) (by simp))) rfl (by kernel_rfl) rfl rfl ?_)
    | fail)
  refine (CM.out _ (L3.out.at _ (by simp)) (L3.out.over HZ.out)).mono ?_
  rintro e9 w4 ⟨rfl, hb9⟩
  have L4 := Lib.hid (L3.out.next hb9)
  clear hb9 L3
  go_wp2
  go_ret
  exact ⟨rfl, L4.out.bel⟩
set_option maxHeartbeats 4000000 in
theorem walk_off (s : Hs) (d : Hd_) (k : Sh.Ks) (xs : List Int) (w : World) (hf : Sh.fewK s k = true) (h5 : k.ph = 5) (hm : mayB0 s d = false) (hz : Cl.Sz w) (hp : Hp w w.heap.size s d) (hv : ∀ i, -9223372036854775808 ≤ d.ws.getD i 0 ∧ d.ws.getD i 0 ≤ 9223372036854775807) (hk : Sh.WRow w w.heap.size k xs) : Calls Tryz.prog 8 #[(.agg #[.slice s.w.a s.w.n s.w.c, .slice s.p.a s.p.n s.p.c, .slice (s.u 0).a (s.u 0).n (s.u 0).c, .slice (s.u 1).a (s.u 1).n (s.u 1).c, .slice (s.u 2).a (s.u 2).n (s.u 2).c, .slice s.c.a s.c.n s.c.c]), (.agg #[.int .i64 k.ph, .int .i64 k.ep, .bool k.mj, .slice k.wk.a k.wk.n k.wk.c, .bool k.ov, .int .i64 k.pa, .int .i64 k.pf, .int .i64 k.ps, .int .i64 k.pc, .bool k.me])] w fun e w' => e = .returned (.bool true) ∧ Below w.heap.size w w' := by
  obtain ⟨hin, hx, hwn, hlen⟩ := few_in hf hp hv hk hz
  have HI := Lib.hid hin
  have HX := Lib.hid hx
  have CM := Lib.hid (fun W (hW : Hold W (⟨s, k, d, xs⟩ : Q2)) (hz : Cl.Sz W) => pmay0_any s d W hW.h hz hin.fine)
  rw [hm] at CM
  have c1 : decide (k.ph = 5) = true := decide_eq_true h5
  have c2 : (k.ph == 5) = true := c1
  have c3 : (k.ph != 5) = false := by rw [bne, c2]; rfl
  have CS := Lib.hid (fun W (hW : Hold W (⟨s, k, d, xs⟩ : Q2)) (hz : Cl.Sz W) => step_any (⟨s, k, d, xs⟩ : Q2) W ⟨hW, hz, hin.fine, hin.x⟩)
  have HS := Lib.hid (step_no (s := s) (d := d) (k := k) (xs := xs) (fun hh => by rw [hm] at hh; cases hh.1))
  have HFI := Lib.hid hin.fine
  clear hin hx hwn hlen h5 hm
  have HZ := Lib.hid hz
  have CF := Lib.hid (fun W => Tr.few_any s k W)
  rw [hf] at CF
  go_enter Tryz.func8, Tryz.ntmps8
  go_upto_region 1 with fail
  obtain ⟨W1, hW1⟩ : ∃ W1, W1 = (w.alloc (.cells #[.slice s.w.a s.w.n s.w.c, .slice s.p.a s.p.n s.p.c, .slice (s.u 0).a (s.u 0).n (s.u 0).c, .slice (s.u 1).a (s.u 1).n (s.u 1).c, .slice (s.u 2).a (s.u 2).n (s.u 2).c, .slice s.c.a s.c.n s.c.c] 28)).alloc (.cells #[.int .i64 k.ph, .int .i64 k.ep, .bool k.mj, .slice k.wk.a k.wk.n k.wk.c, .bool k.ov, .int .i64 k.pa, .int .i64 k.pf, .int .i64 k.ps, .int .i64 k.pc, .bool k.me] 30) := ⟨_, rfl⟩
  have L1 := Lib.hid (((lq_none w).two (s := s) (k := k) hW1).held (n := (⟨s, k, d, xs⟩ : Q2)) ⟨hp.next (by rw [hW1]; exact ((Below.refl _ _).alloc (Nat.le_refl _) _).alloc (by simp) _), hk.next (by rw [hW1]; exact ((Below.refl _ _).alloc (Nat.le_refl _) _).alloc (by simp) _)⟩)
  rw [← hW1]
  clear hW1 hz hp hv hk hf
  go_upto_region 2 with ((go_at_call 22); (with_reducible refine (Tr.awake_any _ (L1.out.over HZ.out)).mono ?_); rintro e9 w2 ⟨rfl, hb9⟩; have L2 := Lib.hid (L1.out.next hb9); clear hb9 L1)
  go_upto_region 3 with (first
    | (refine w_load (ldHb (L2.out.bx (w.heap.size) (hv s) (by simp))) rfl rfl rfl rfl ?_)
    | (refine w_load (ldKb (L2.out.bx (w.heap.size + 1) (kv k) (by simp))) rfl rfl rfl rfl ?_)
    | ((go_at_call 23); (with_reducible refine (CF.out _).mono ?_); rintro e9 w3 ⟨rfl, hb9⟩; have L3 := Lib.hid (L2.out.next hb9); clear hb9 L2))
  have q0 := (L3.out.bx (w.heap.size + 1) (kv k) (by simp)).cel 0 (.int .i64 k.ph) rfl
  go_upto_region 5 with (first
    | (refine w_loadg (ldHb (L3.out.bx (w.heap.size) (hv s) (by simp))) rfl (by kernel_rfl) rfl rfl ?_)
    | fail)
  refine (CM.out _ (L3.out.at _ (by simp)) (L3.out.over HZ.out)).mono ?_
  rintro e9 w4 ⟨rfl, hb9⟩
  have L4 := Lib.hid (L3.out.next hb9)
  clear hb9 L3 q0 c1 c2 c3
  go_upto_region 5 with fail
  go_upto_region 6 with (first
    | (refine w_load (ldHb (L4.out.bx (w.heap.size) (hv s) (by simp))) rfl rfl rfl rfl ?_)
    | (refine w_load (ldKb (L4.out.bx (w.heap.size + 1) (kv k) (by simp))) rfl rfl rfl rfl ?_)
    | ((go_at_call 27); (with_reducible refine (CS.out _ (L4.out.at _ (by simp)) (L4.out.over HZ.out)).mono ?_); rintro e9 w5 ⟨z, rfl, hl9, hd9, hx9, hk9, hh9, _, hb9⟩; have L5 := Lib.hid ((L4.out.next hb9).held (n := z) hh9); have Z5 := Lib.hid (And.intro hl9 (And.intro (hd9.trans (congrArg R3.d HS.out)) (And.intro (hx9.trans (congrArg R3.xs HS.out)) (show z.k = Sh.kw k z.k.wk k.ov by rw [hk9, HS.out]; rfl)))); clear hl9 hd9 hx9 hk9 hh9 hb9 L4))
  obtain ⟨W6, hW6⟩ : ∃ W6, W6 = (w5.alloc (.cells #[.slice z.s.w.a z.s.w.n z.s.w.c, .slice z.s.p.a z.s.p.n z.s.p.c, .slice (z.s.u 0).a (z.s.u 0).n (z.s.u 0).c, .slice (z.s.u 1).a (z.s.u 1).n (z.s.u 1).c, .slice (z.s.u 2).a (z.s.u 2).n (z.s.u 2).c, .slice z.s.c.a z.s.c.n z.s.c.c] 28)).alloc (.cells #[.int .i64 z.k.ph, .int .i64 z.k.ep, .bool z.k.mj, .slice z.k.wk.a z.k.wk.n z.k.wk.c, .bool z.k.ov, .int .i64 z.k.pa, .int .i64 z.k.pf, .int .i64 z.k.ps, .int .i64 z.k.pc, .bool z.k.me] 30) := ⟨_, rfl⟩
  have L6 := Lib.hid (L5.out.two (s := z.s) (k := z.k) hW6)
  have hb6 : Below w5.heap.size w5 W6 := by rw [hW6]; exact ((Below.refl _ _).alloc (Nat.le_refl _) _).alloc (by simp) _
  obtain ⟨b5, hb5⟩ : ∃ b5, b5 = w5.heap.size := ⟨_, rfl⟩
  rw [← hb5] at L6
  rw [← hW6, ← hb5]
  have L6 : Hid (Lq w W6 [(b5 + 1, kv z.k), (b5, hv z.s), (w.heap.size + 1, kv k), (w.heap.size, hv s)] [z, (⟨s, k, d, xs⟩ : Q2)]) := Lib.hid ⟨L6.out.bel, fun x hx => L6.out.box x (by simpa using hx), fun x hx => (L5.out.hold x (by simpa using hx)).next hb6⟩
  clear hW6 hb6 hb5 L5
  have CA := Lib.hid (fun W (h1 : Hold W (⟨s, k, d, xs⟩ : Q2)) (h2 : Hold W z) => Sh.hsame_yes z.s s d W Z5.out.1 h1.h (by have := h2.h; rw [Z5.out.2.1] at this; exact this) HFI.out)
  have CB := Lib.hid (fun W (h1 : Hold W (⟨s, k, d, xs⟩ : Q2)) (h2 : Hold W z) => Sh.ksame_yes k z.k.wk k.wk k.ov xs W (by have := h2.c; unfold Sh.WRow at this; rw [Z5.out.2.2.1] at this; exact this) h1.c (by have := HX.out; omega))
  have ek : ((.agg #[.int .i64 z.k.ph, .int .i64 z.k.ep, .bool z.k.mj, .slice z.k.wk.a z.k.wk.n z.k.wk.c, .bool z.k.ov, .int .i64 z.k.pa, .int .i64 z.k.pf, .int .i64 z.k.ps, .int .i64 z.k.pc, .bool z.k.me]) : Value) = (.agg #[.int .i64 k.ph, .int .i64 k.ep, .bool k.mj, .slice z.k.wk.a z.k.wk.n z.k.wk.c, .bool k.ov, .int .i64 k.pa, .int .i64 k.pf, .int .i64 k.ps, .int .i64 k.pc, .bool k.me]) := by
    have h := Z5.out.2.2.2
    conv => lhs; rw [h]
    rfl
  have EK := Lib.hid ek
  clear ek
  go_wp2_with (first
    | (refine w_load (ldHb (L6.out.bx (b5) (hv z.s) (by simp))) rfl rfl rfl rfl ?_)
    | (refine w_load (ldHb (L6.out.bx (w.heap.size) (hv s) (by simp))) rfl rfl rfl rfl ?_)
    | ((go_at_call 13); (with_reducible refine (CA.out _ (L6.out.at (⟨s, k, d, xs⟩ : Q2) (by simp)) (L6.out.at z (by simp))).mono ?_); rintro e9 w7 ⟨rfl, hb9⟩; have L7 := Lib.hid (L6.out.next hb9); clear hb9)
    | (refine w_loadg (ldKb (L7.out.bx (b5 + 1) (kv z.k) (by simp))) rfl (by kernel_rfl) rfl rfl ?_)
    | (refine w_loadg (ldKb (L7.out.bx (w.heap.size + 1) (kv k) (by simp))) rfl (by kernel_rfl) rfl rfl ?_))
  refine (show Calls Tryz.prog 14 #[(.agg #[.int .i64 z.k.ph, .int .i64 z.k.ep, .bool z.k.mj, .slice z.k.wk.a z.k.wk.n z.k.wk.c, .bool z.k.ov, .int .i64 z.k.pa, .int .i64 z.k.pf, .int .i64 z.k.ps, .int .i64 z.k.pc, .bool z.k.me]), (.agg #[.int .i64 k.ph, .int .i64 k.ep, .bool k.mj, .slice k.wk.a k.wk.n k.wk.c, .bool k.ov, .int .i64 k.pa, .int .i64 k.pf, .int .i64 k.ps, .int .i64 k.pc, .bool k.me])] w7 _ by rw [EK.out]; exact CB.out w7 (L7.out.at (⟨s, k, d, xs⟩ : Q2) (by simp)) (L7.out.at z (by simp))).mono ?_
  rintro e9 w8 ⟨rfl, hb9⟩
  have L8 := Lib.hid (L7.out.next hb9)
  clear hb9
  go_wp2
  go_ret
  exact ⟨rfl, L8.out.bel⟩
set_option maxHeartbeats 4000000 in
theorem walk_other (s : Hs) (d : Hd_) (k : Sh.Ks) (xs : List Int) (w : World) (hf : Sh.fewK s k = true) (h5 : ¬ k.ph = 5) (hz : Cl.Sz w) (hp : Hp w w.heap.size s d) (hv : ∀ i, -9223372036854775808 ≤ d.ws.getD i 0 ∧ d.ws.getD i 0 ≤ 9223372036854775807) (hk : Sh.WRow w w.heap.size k xs) : Calls Tryz.prog 8 #[(.agg #[.slice s.w.a s.w.n s.w.c, .slice s.p.a s.p.n s.p.c, .slice (s.u 0).a (s.u 0).n (s.u 0).c, .slice (s.u 1).a (s.u 1).n (s.u 1).c, .slice (s.u 2).a (s.u 2).n (s.u 2).c, .slice s.c.a s.c.n s.c.c]), (.agg #[.int .i64 k.ph, .int .i64 k.ep, .bool k.mj, .slice k.wk.a k.wk.n k.wk.c, .bool k.ov, .int .i64 k.pa, .int .i64 k.pf, .int .i64 k.ps, .int .i64 k.pc, .bool k.me])] w fun e w' => e = .returned (.bool true) ∧ Below w.heap.size w w' := by
  obtain ⟨hin, hx, hwn, hlen⟩ := few_in hf hp hv hk hz
  have HI := Lib.hid hin
  have HX := Lib.hid hx
  have c1 : decide (k.ph = 5) = false := decide_eq_false h5
  have c2 : (k.ph == 5) = false := c1
  have c3 : (k.ph != 5) = true := by rw [bne, c2]; rfl
  have CS := Lib.hid (fun W (hW : Hold W (⟨s, k, d, xs⟩ : Q2)) (hz : Cl.Sz W) => step_any (⟨s, k, d, xs⟩ : Q2) W ⟨hW, hz, hin.fine, hin.x⟩)
  have HS := Lib.hid (step_no (s := s) (d := d) (k := k) (xs := xs) (fun hh => h5 hh.2))
  have HFI := Lib.hid hin.fine
  clear hin hx hwn hlen h5
  have HZ := Lib.hid hz
  have CF := Lib.hid (fun W => Tr.few_any s k W)
  rw [hf] at CF
  go_enter Tryz.func8, Tryz.ntmps8
  go_upto_region 1 with fail
  obtain ⟨W1, hW1⟩ : ∃ W1, W1 = (w.alloc (.cells #[.slice s.w.a s.w.n s.w.c, .slice s.p.a s.p.n s.p.c, .slice (s.u 0).a (s.u 0).n (s.u 0).c, .slice (s.u 1).a (s.u 1).n (s.u 1).c, .slice (s.u 2).a (s.u 2).n (s.u 2).c, .slice s.c.a s.c.n s.c.c] 28)).alloc (.cells #[.int .i64 k.ph, .int .i64 k.ep, .bool k.mj, .slice k.wk.a k.wk.n k.wk.c, .bool k.ov, .int .i64 k.pa, .int .i64 k.pf, .int .i64 k.ps, .int .i64 k.pc, .bool k.me] 30) := ⟨_, rfl⟩
  have L1 := Lib.hid (((lq_none w).two (s := s) (k := k) hW1).held (n := (⟨s, k, d, xs⟩ : Q2)) ⟨hp.next (by rw [hW1]; exact ((Below.refl _ _).alloc (Nat.le_refl _) _).alloc (by simp) _), hk.next (by rw [hW1]; exact ((Below.refl _ _).alloc (Nat.le_refl _) _).alloc (by simp) _)⟩)
  rw [← hW1]
  clear hW1 hz hp hv hk hf
  go_upto_region 2 with ((go_at_call 22); (with_reducible refine (Tr.awake_any _ (L1.out.over HZ.out)).mono ?_); rintro e9 w2 ⟨rfl, hb9⟩; have L2 := Lib.hid (L1.out.next hb9); clear hb9 L1)
  go_upto_region 3 with (first
    | (refine w_load (ldHb (L2.out.bx (w.heap.size) (hv s) (by simp))) rfl rfl rfl rfl ?_)
    | (refine w_load (ldKb (L2.out.bx (w.heap.size + 1) (kv k) (by simp))) rfl rfl rfl rfl ?_)
    | ((go_at_call 23); (with_reducible refine (CF.out _).mono ?_); rintro e9 w3 ⟨rfl, hb9⟩; have L3 := Lib.hid (L2.out.next hb9); clear hb9 L2))
  have q0 := (L3.out.bx (w.heap.size + 1) (kv k) (by simp)).cel 0 (.int .i64 k.ph) rfl
  go_upto_region 5 with fail
  have L4 := L3
  clear q0 c1 c2 c3 L3
  go_upto_region 6 with (first
    | (refine w_load (ldHb (L4.out.bx (w.heap.size) (hv s) (by simp))) rfl rfl rfl rfl ?_)
    | (refine w_load (ldKb (L4.out.bx (w.heap.size + 1) (kv k) (by simp))) rfl rfl rfl rfl ?_)
    | ((go_at_call 27); (with_reducible refine (CS.out _ (L4.out.at _ (by simp)) (L4.out.over HZ.out)).mono ?_); rintro e9 w5 ⟨z, rfl, hl9, hd9, hx9, hk9, hh9, _, hb9⟩; have L5 := Lib.hid ((L4.out.next hb9).held (n := z) hh9); have Z5 := Lib.hid (And.intro hl9 (And.intro (hd9.trans (congrArg R3.d HS.out)) (And.intro (hx9.trans (congrArg R3.xs HS.out)) (show z.k = Sh.kw k z.k.wk k.ov by rw [hk9, HS.out]; rfl)))); clear hl9 hd9 hx9 hk9 hh9 hb9 L4))
  obtain ⟨W6, hW6⟩ : ∃ W6, W6 = (w5.alloc (.cells #[.slice z.s.w.a z.s.w.n z.s.w.c, .slice z.s.p.a z.s.p.n z.s.p.c, .slice (z.s.u 0).a (z.s.u 0).n (z.s.u 0).c, .slice (z.s.u 1).a (z.s.u 1).n (z.s.u 1).c, .slice (z.s.u 2).a (z.s.u 2).n (z.s.u 2).c, .slice z.s.c.a z.s.c.n z.s.c.c] 28)).alloc (.cells #[.int .i64 z.k.ph, .int .i64 z.k.ep, .bool z.k.mj, .slice z.k.wk.a z.k.wk.n z.k.wk.c, .bool z.k.ov, .int .i64 z.k.pa, .int .i64 z.k.pf, .int .i64 z.k.ps, .int .i64 z.k.pc, .bool z.k.me] 30) := ⟨_, rfl⟩
  have L6 := Lib.hid (L5.out.two (s := z.s) (k := z.k) hW6)
  have hb6 : Below w5.heap.size w5 W6 := by rw [hW6]; exact ((Below.refl _ _).alloc (Nat.le_refl _) _).alloc (by simp) _
  obtain ⟨b5, hb5⟩ : ∃ b5, b5 = w5.heap.size := ⟨_, rfl⟩
  rw [← hb5] at L6
  rw [← hW6, ← hb5]
  have L6 : Hid (Lq w W6 [(b5 + 1, kv z.k), (b5, hv z.s), (w.heap.size + 1, kv k), (w.heap.size, hv s)] [z, (⟨s, k, d, xs⟩ : Q2)]) := Lib.hid ⟨L6.out.bel, fun x hx => L6.out.box x (by simpa using hx), fun x hx => (L5.out.hold x (by simpa using hx)).next hb6⟩
  clear hW6 hb6 hb5 L5
  have CA := Lib.hid (fun W (h1 : Hold W (⟨s, k, d, xs⟩ : Q2)) (h2 : Hold W z) => Sh.hsame_yes z.s s d W Z5.out.1 h1.h (by have := h2.h; rw [Z5.out.2.1] at this; exact this) HFI.out)
  have CB := Lib.hid (fun W (h1 : Hold W (⟨s, k, d, xs⟩ : Q2)) (h2 : Hold W z) => Sh.ksame_yes k z.k.wk k.wk k.ov xs W (by have := h2.c; unfold Sh.WRow at this; rw [Z5.out.2.2.1] at this; exact this) h1.c (by have := HX.out; omega))
  have ek : ((.agg #[.int .i64 z.k.ph, .int .i64 z.k.ep, .bool z.k.mj, .slice z.k.wk.a z.k.wk.n z.k.wk.c, .bool z.k.ov, .int .i64 z.k.pa, .int .i64 z.k.pf, .int .i64 z.k.ps, .int .i64 z.k.pc, .bool z.k.me]) : Value) = (.agg #[.int .i64 k.ph, .int .i64 k.ep, .bool k.mj, .slice z.k.wk.a z.k.wk.n z.k.wk.c, .bool k.ov, .int .i64 k.pa, .int .i64 k.pf, .int .i64 k.ps, .int .i64 k.pc, .bool k.me]) := by
    have h := Z5.out.2.2.2
    conv => lhs; rw [h]
    rfl
  have EK := Lib.hid ek
  clear ek
  go_wp2_with (first
    | (refine w_load (ldHb (L6.out.bx (b5) (hv z.s) (by simp))) rfl rfl rfl rfl ?_)
    | (refine w_load (ldHb (L6.out.bx (w.heap.size) (hv s) (by simp))) rfl rfl rfl rfl ?_)
    | ((go_at_call 13); (with_reducible refine (CA.out _ (L6.out.at (⟨s, k, d, xs⟩ : Q2) (by simp)) (L6.out.at z (by simp))).mono ?_); rintro e9 w7 ⟨rfl, hb9⟩; have L7 := Lib.hid (L6.out.next hb9); clear hb9)
    | (refine w_loadg (ldKb (L7.out.bx (b5 + 1) (kv z.k) (by simp))) rfl (by kernel_rfl) rfl rfl ?_)
    | (refine w_loadg (ldKb (L7.out.bx (w.heap.size + 1) (kv k) (by simp))) rfl (by kernel_rfl) rfl rfl ?_))
  refine (show Calls Tryz.prog 14 #[(.agg #[.int .i64 z.k.ph, .int .i64 z.k.ep, .bool z.k.mj, .slice z.k.wk.a z.k.wk.n z.k.wk.c, .bool z.k.ov, .int .i64 z.k.pa, .int .i64 z.k.pf, .int .i64 z.k.ps, .int .i64 z.k.pc, .bool z.k.me]), (.agg #[.int .i64 k.ph, .int .i64 k.ep, .bool k.mj, .slice k.wk.a k.wk.n k.wk.c, .bool k.ov, .int .i64 k.pa, .int .i64 k.pf, .int .i64 k.ps, .int .i64 k.pc, .bool k.me])] w7 _ by rw [EK.out]; exact CB.out w7 (L7.out.at (⟨s, k, d, xs⟩ : Q2) (by simp)) (L7.out.at z (by simp))).mono ?_
  rintro e9 w8 ⟨rfl, hb9⟩
  have L8 := Lib.hid (L7.out.next hb9)
  clear hb9
  go_wp2
  go_ret
  exact ⟨rfl, L8.out.bel⟩
theorem walk (s : Hs) (d : Hd_) (k : Sh.Ks) (xs : List Int) (w : World) (hz : Cl.Sz w) (hp : Hp w w.heap.size s d) (hv : Fit64 d.ws) (_ : s.p.n ≤ s.p.c) (hk : Sh.WRow w w.heap.size k xs) (_ : k.wk.n ≤ k.wk.c) (_ : k.wk.c ≤ maxLen) (_ : (Lit.int .i64 k.ep).wf = true) : Calls Tryz.prog 8 #[(.agg #[.slice s.w.a s.w.n s.w.c, .slice s.p.a s.p.n s.p.c, .slice (s.u 0).a (s.u 0).n (s.u 0).c, .slice (s.u 1).a (s.u 1).n (s.u 1).c, .slice (s.u 2).a (s.u 2).n (s.u 2).c, .slice s.c.a s.c.n s.c.c]), (.agg #[.int .i64 k.ph, .int .i64 k.ep, .bool k.mj, .slice k.wk.a k.wk.n k.wk.c, .bool k.ov, .int .i64 k.pa, .int .i64 k.pf, .int .i64 k.ps, .int .i64 k.pc, .bool k.me])] w fun e w' => e = .returned (.bool true) ∧ Below w.heap.size w w' := by
  cases hf : Sh.fewK s k
  · exact walk_few s d k xs w hf hz hp hv hk
  · by_cases h5 : k.ph = 5
    · cases hm : mayB0 s d
      · exact walk_off s d k xs w hf h5 hm hz hp hv hk
      · exact walk_on s d k xs w hf h5 hm hz hp hv hk
    · exact walk_other s d k xs w hf h5 hz hp hv hk
-- the frame (hp16frame.py)
set_option maxRecDepth 100000 in
theorem lifted (os : Os) (started : os.Started) (H : Type) (enc : TypeId × Value → H) :
    ReturnsInHanded {} Tryz.checked os 8 .any (fun w args => (Rows.traceIdleSpec.pre enc Tryz.prog Tryz.f8 [] false w args ∧ laidMetH Tryz.prog laidSizes w) ∧ sizedMet enc Tryz.prog Tryz.f8 (OpenSpec.ofChange Rows.traceIdleSpec) false w args)
      (Rows.traceIdleSpec.post enc Tryz.prog Tryz.f8 false true false false) := by
  refine returnsInHanded_of_change_and (C := Tryz.checked) (X := fun w _ => laidMetH Tryz.prog laidSizes w) (fun _ _ _ hh h => h.of_heap hh) own started (by kernel_rfl) Tryz.func8
    (ChangeSpec.witness_shaped (enc := enc) (C := Tryz.checked) (os := os) (X := fun w _ => laidMetH Tryz.prog laidSizes w) false (World.doorLaid Tryz.prog 400 os) #[.agg #[.slice none 0 0, .slice none 0 0, .slice none 0 0, .slice none 0 0, .slice none 0 0, .slice none 0 0], .agg #[.int .i64 0, .int .i64 0, .bool false, .slice none 0 0, .bool false, .int .i64 0, .int .i64 0, .int .i64 0, .int .i64 0, .bool false]] 8 rfl (World.shaped_of_RefB (by kernel_rfl) (by kernel_rfl)) (by kernel_rfl) (by kernel_rfl) (by kernel_rfl) (door_met os _)) ?_
  intro W base args ds gs before hval0 hW _ _ hL _
  have hval : ∀ (j : Nat) t v, Tryz.f8.params[j]? = some t → args[j]? = some v → Value.okWide Tryz.prog W .any base t v := hval0
  have hW' := hW
  obtain ⟨p, q, hA0, hV, rfl, hfz, hnd⟩ := hW
  have hA : DataW.TrodAll enc Tryz.prog W 0 (fun _ => true) true Tryz.f8.params.toList args.toList ds p := hA0
  rw [Tryz.params8] at hA hval
  obtain ⟨v0, vs0, d0, ds0, p0, q0, hargs, rfl, rfl, h0, r0⟩ := trodAll_cons hA
  obtain ⟨v1, vs1, d1, ds1, p1, q1, rfl, rfl, rfl, h1, r1⟩ := trodAll_cons r0
  obtain ⟨rfl, rfl, rfl⟩ := trodAll_nil r1
  obtain rfl : args = #[v0, v1] := by cases args; simp_all
  obtain ⟨rfl, rfl⟩ := trodVars_none hV
  have k0 := h0
  have lt0 : ∀ x ∈ p0, x.block < W.heap.size := by obtain ⟨m, hm⟩ := k0; exact DataW.trod_lt m _ _ _ hm
  obtain ⟨s0, z0, rfl, w0, f0, b0⟩ := heap_of8 (hval 0 28 v0 rfl rfl) h0
  have k1 := h1
  have lt1 : ∀ x ∈ p1, x.block < W.heap.size := by obtain ⟨m, hm⟩ := k1; exact DataW.trod_lt m _ _ _ hm
  obtain ⟨k1', z1, rfl, w1, m1, x1, f1⟩ := Sh.col_of (hval 1 30 v1 rfl rfl) h1
  clear hA0 hval0
  refine (walk s0 z0 k1' z1 W (of_laid hL) w0 f0 b0 w1 m1 x1 f1).mono fun e W' ⟨he, bel⟩ => ?_
  subst he
  exact ⟨_, rfl, _, _, _, [], _, [], hW', trodAll_mk1 (shut_bool Tryz.underlying4 _), (trodAll_cons_mk (Below.trod laidOut (by kernel_rfl) (of_decide_eq_true (by kernel_rfl)) k0 bel lt0) (trodAll_cons_mk (Below.trod laidOut (by kernel_rfl) (of_decide_eq_true (by kernel_rfl)) k1 bel lt1) trodAll_mk0)), rfl, bel.frame _, fun h => by cases h⟩

theorem over : Rows.TraceIdleSaid :=
  OpenClaim.holds_of_wide 8 Tryz.f8 rfl rfl rfl rfl rfl rfl rfl ⟨rfl, rfl, rfl, rfl, rfl⟩ rfl rfl rfl rfl rfl (by kernel_rfl) Tryz.func8 (by kernel_rfl)
    (of_decide_eq_true (by kernel_rfl)) (by unfold Func.isWrapper; first | (rw [if_pos (by decide +kernel)]; kernel_rfl) | (rw [if_neg (by decide +kernel)]; exact ⟨rfl, rfl⟩))
    (fun os started H enc _ => lifted os started H enc)

/-- The statement: the card. -/
theorem proved : Rows.TraceIdleCardSaid :=
  Claim7.holds_tied_plain_at .later [] [.data] true Rows.traceIdleCard.stood.harness false
    over (fun _ h => by cases h) (by kernel_rfl) (fun _ h => by cases h) traceIdle_row_tie rfl ⟨rfl, rfl⟩ (by kernel_rfl) rfl
    (fun f fn hf hfn => by
      obtain rfl : f = 8 := Option.some.inj ((show Tryz.prog.funcNamed "ragpicker/ragpickerlaw16.TraceIdle" = some 8 by kernel_rfl).symm.trans hf) |>.symm
      obtain rfl : fn = Tryz.f8 := (Option.some.inj (Tryz.func8.symm.trans hfn)).symm
      exact ⟨by kernel_rfl, fun j t ht => by
        rw [Tryz.params8] at ht
        have hm : t ∈ [28, 30] := by simpa using Array.mem_of_getElem? ht
        have hall : ([28, 30].all fun u => !Tryz.prog.wantsStandIn u) = true := by kernel_rfl
        exact (show Tryz.prog.wantsStandIn t = false by simpa using List.all_eq_true.1 hall t hm)⟩)
    (by kernel_rfl)
#print axioms proved
end Go.Proofs.YtccjelpfmkbmiaaGreatDoor.TraceIdle
