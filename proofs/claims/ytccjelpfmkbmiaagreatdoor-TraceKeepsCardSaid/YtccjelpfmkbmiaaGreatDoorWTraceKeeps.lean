/-
  TraceKeeps: a step changes no field, no page, no card, and no free cell; no object grows old, or white; what is old is never grey in a minor cycle: for every heap of at most 9 pages and 130 words, and every work list of at most 100; the table of sizes is tied to the program's text by the card.
-/
import Derived.Test.YtccjelpfmkbmiaaGreatDoorWTrAwake
import Derived.Test.YtccjelpfmkbmiaaGreatDoorHpWN
import Derived.Test.YtccjelpfmkbmiaaGreatDoorHpWM
import Derived.Test.YtccjelpfmkbmiaaGreatDoorWTrRef
import Derived.Deep.LoopGhost
import Derived.Deep.Cut
import Derived.Deep.CutRange
import Derived.Deep.QuietTactic
import Derived.BigQuiet
namespace Go.Proofs.YtccjelpfmkbmiaaGreatDoor.TraceKeeps
open Go.Proofs.YtccjelpfmkbmiaaGreatDoor Go.Proofs.YtccjelpfmkbmiaaGreatDoor.Rt Go.Proofs.YtccjelpfmkbmiaaGreatDoor.Tr
open Go.ChangeShapes Go.WideShapes Go.ChangeAt Go.RowKit Go.Deep
open Go.Proofs.YtccjelpfmkbmiaaGreatDoor.Mu (hv kv w_load w_store w_loadg ldHb ldKb stHb stKb st_int ld_int noHs0 noK0)
open Go.Proofs.YtccjelpfmkbmiaaGreatDoor.Ha (region_planK pl_full putD w_skip)
set_option maxRecDepth 100000

set_option maxHeartbeats 1000000 in
theorem walk_few (s : Hs) (d : Hd_) (k : Sh.Ks) (xs : List Int) (w : World) (hf : Sh.fewK s k = false) (hz : Cl.Sz w) (hp : Hp w w.heap.size s d) (_ : ∀ i, -9223372036854775808 ≤ d.ws.getD i 0 ∧ d.ws.getD i 0 ≤ 9223372036854775807) (hk : Sh.WRow w w.heap.size k xs) : Calls Tryz.prog 6 #[(.agg #[.slice s.w.a s.w.n s.w.c, .slice s.p.a s.p.n s.p.c, .slice (s.u 0).a (s.u 0).n (s.u 0).c, .slice (s.u 1).a (s.u 1).n (s.u 1).c, .slice (s.u 2).a (s.u 2).n (s.u 2).c, .slice s.c.a s.c.n s.c.c]), (.agg #[.int .i64 k.ph, .int .i64 k.ep, .bool k.mj, .slice k.wk.a k.wk.n k.wk.c, .bool k.ov, .int .i64 k.pa, .int .i64 k.pf, .int .i64 k.ps, .int .i64 k.pc, .bool k.me])] w fun e w' => e = .returned (.bool true) ∧ Below w.heap.size w w' := by
  have HZ := Lib.hid hz
  have CF := Lib.hid (fun W => Tr.few_any s k W)
  rw [hf] at CF
  go_enter Tryz.func6, Tryz.ntmps6
  go_upto_region 1 with fail
  obtain ⟨W1, hW1⟩ : ∃ W1, W1 = (w.alloc (.cells #[.slice s.w.a s.w.n s.w.c, .slice s.p.a s.p.n s.p.c, .slice (s.u 0).a (s.u 0).n (s.u 0).c, .slice (s.u 1).a (s.u 1).n (s.u 1).c, .slice (s.u 2).a (s.u 2).n (s.u 2).c, .slice s.c.a s.c.n s.c.c] 28)).alloc (.cells #[.int .i64 k.ph, .int .i64 k.ep, .bool k.mj, .slice k.wk.a k.wk.n k.wk.c, .bool k.ov, .int .i64 k.pa, .int .i64 k.pf, .int .i64 k.ps, .int .i64 k.pc, .bool k.me] 30) := ⟨_, rfl⟩
  have L1 := Lib.hid (((lq_none w).two (s := s) (k := k) hW1).held (n := (⟨s, k, d, xs⟩ : Q2)) ⟨hp.next (by rw [hW1]; exact ((Below.refl _ _).alloc (Nat.le_refl _) _).alloc (by simp) _), hk.next (by rw [hW1]; exact ((Below.refl _ _).alloc (Nat.le_refl _) _).alloc (by simp) _)⟩)
  rw [← hW1]
  clear hW1 hz hp hk hf
  go_upto_region 2 with ((go_at_call 22); (with_reducible refine (Tr.awake_any _ (L1.out.over HZ.out)).mono ?_); rintro e9 w2 ⟨rfl, hb9⟩; have L2 := Lib.hid (L1.out.next hb9); clear hb9 L1)
  go_upto_region 3 with (first
    | (refine w_load (ldHb (L2.out.bx (w.heap.size) (hv s) (by simp))) rfl rfl rfl rfl ?_)
    | (refine w_load (ldKb (L2.out.bx (w.heap.size + 1) (kv k) (by simp))) rfl rfl rfl rfl ?_)
    | ((go_at_call 23); (with_reducible refine (CF.out _).mono ?_); rintro e9 w3 ⟨rfl, hb9⟩; have L3 := Lib.hid (L2.out.next hb9); clear hb9 L2))
  go_wp2
  go_ret
  exact ⟨rfl, L3.out.bel⟩
set_option maxHeartbeats 16000000 in
theorem walk_off (s : Hs) (d : Hd_) (k : Sh.Ks) (xs : List Int) (w : World) (hf : Sh.fewK s k = true) (hm : mayB0 s d = false) (hz : Cl.Sz w) (hp : Hp w w.heap.size s d) (hv : ∀ i, -9223372036854775808 ≤ d.ws.getD i 0 ∧ d.ws.getD i 0 ≤ 9223372036854775807) (hk : Sh.WRow w w.heap.size k xs) : Calls Tryz.prog 6 #[(.agg #[.slice s.w.a s.w.n s.w.c, .slice s.p.a s.p.n s.p.c, .slice (s.u 0).a (s.u 0).n (s.u 0).c, .slice (s.u 1).a (s.u 1).n (s.u 1).c, .slice (s.u 2).a (s.u 2).n (s.u 2).c, .slice s.c.a s.c.n s.c.c]), (.agg #[.int .i64 k.ph, .int .i64 k.ep, .bool k.mj, .slice k.wk.a k.wk.n k.wk.c, .bool k.ov, .int .i64 k.pa, .int .i64 k.pf, .int .i64 k.ps, .int .i64 k.pc, .bool k.me])] w fun e w' => e = .returned (.bool true) ∧ Below w.heap.size w w' := by
  obtain ⟨hin, hx, hwn, hlen⟩ := few_in hf hp hv hk hz
  have CM := Lib.hid (fun W (hW : Hold W (⟨s, k, d, xs⟩ : Q2)) (hz : Cl.Sz W) => pmay0_any s d W hW.h hz hin.fine)
  rw [hm] at CM
  clear hin hx hwn hlen hm
  have HZ := Lib.hid hz
  have CF := Lib.hid (fun W => Tr.few_any s k W)
  rw [hf] at CF
  go_enter Tryz.func6, Tryz.ntmps6
  go_upto_region 1 with fail
  obtain ⟨W1, hW1⟩ : ∃ W1, W1 = (w.alloc (.cells #[.slice s.w.a s.w.n s.w.c, .slice s.p.a s.p.n s.p.c, .slice (s.u 0).a (s.u 0).n (s.u 0).c, .slice (s.u 1).a (s.u 1).n (s.u 1).c, .slice (s.u 2).a (s.u 2).n (s.u 2).c, .slice s.c.a s.c.n s.c.c] 28)).alloc (.cells #[.int .i64 k.ph, .int .i64 k.ep, .bool k.mj, .slice k.wk.a k.wk.n k.wk.c, .bool k.ov, .int .i64 k.pa, .int .i64 k.pf, .int .i64 k.ps, .int .i64 k.pc, .bool k.me] 30) := ⟨_, rfl⟩
  have L1 := Lib.hid (((lq_none w).two (s := s) (k := k) hW1).held (n := (⟨s, k, d, xs⟩ : Q2)) ⟨hp.next (by rw [hW1]; exact ((Below.refl _ _).alloc (Nat.le_refl _) _).alloc (by simp) _), hk.next (by rw [hW1]; exact ((Below.refl _ _).alloc (Nat.le_refl _) _).alloc (by simp) _)⟩)
  rw [← hW1]
  clear hW1 hz hp hv hk hf
  go_upto_region 2 with ((go_at_call 22); (with_reducible refine (Tr.awake_any _ (L1.out.over HZ.out)).mono ?_); rintro e9 w2 ⟨rfl, hb9⟩; have L2 := Lib.hid (L1.out.next hb9); clear hb9 L1)
  go_upto_region 3 with (first
    | (refine w_load (ldHb (L2.out.bx (w.heap.size) (hv s) (by simp))) rfl rfl rfl rfl ?_)
    | (refine w_load (ldKb (L2.out.bx (w.heap.size + 1) (kv k) (by simp))) rfl rfl rfl rfl ?_)
    | ((go_at_call 23); (with_reducible refine (CF.out _).mono ?_); rintro e9 w3 ⟨rfl, hb9⟩; have L3 := Lib.hid (L2.out.next hb9); clear hb9 L2))
  go_upto_region 5 with (first
    | (refine w_loadg (ldHb (L3.out.bx (w.heap.size) (hv s) (by simp))) rfl (by kernel_rfl) rfl rfl ?_)
    | fail)
  refine (CM.out _ (L3.out.at _ (by simp)) (L3.out.over HZ.out)).mono ?_
  rintro e9 v4 ⟨rfl, hb9⟩
  have L4 := Lib.hid (L3.out.next hb9)
  clear hb9 L3
  go_wp2
  go_ret
  exact ⟨rfl, L4.out.bel⟩
/-- What the walk has: boxes and states at the world ahead of the copy. -/
structure At8 (w w8 : World) (s : Hs) (k : Sh.Ks) (d : Hd_) (xs : List Int) (b5 : Nat) (z : Q2) : Prop where
  lq : Lq w w8 [(b5 + 1, kv z.k), (b5, hv z.s), (w.heap.size + 1, kv k), (w.heap.size, hv s)] [z, (⟨s, k, d, xs⟩ : Q2)]
  len : Lens s z.s
  fine : Fine s d
  finz : Fine z.s z.d
  kept : Kept1 s d z.d k.mj k.ep
  kk : z.k.ep = k.ep ∧ z.k.mj = k.mj
  used : usedL s z.d = usedL s d
  wl : z.d.ws.length = d.ws.length
  hl : d.ws.length = s.w.n
/-- The last region of a round: what is stored once. -/
structure Sx (w8 : World) (bm : Nat) (t : Hs) (D : Hd_) (ws : List Int) (i0 : Nat) (v : Int) (l : Nat → Bool) (W : World) : Prop where
  st : Kp w8 W bm t D (if l 17 = true then ws.set i0 v else ws)
section
variable {w8 W W' : World} {bm i0 q g : Nat} {t : Hs} {D : Hd_} {ws : List Int} {v : Int} {l : Nat → Bool}
theorem sx_start (h : Kp w8 W bm t D ws) : Sx w8 bm t D ws i0 v (fun _ => false) W := ⟨h⟩
theorem Sx.pure (h : Sx w8 bm t D ws i0 v l W) (hq : ¬ q = 17) : Sx w8 bm t D ws i0 v (Ls.upd l q true) W := ⟨by rw [Ls.upd_other _ _ (fun e => hq e.symm)]; exact h.st⟩
theorem Sx.put (h : Sx w8 bm t D ws i0 v l W) (hl : l 17 = false) (ha : t.w.a = some ⟨g, 0, none⟩) (hm : Mine W w8.heap.size 3 g t.w.n t.w.c (if l 17 = true then ws.set i0 v else ws)) : Sx w8 bm t D ws i0 v (Ls.upd l 17 true) (W.setCell ⟨g, i0, none⟩ (.int .i64 v)) :=
  ⟨by
    have h1 := h.st.store ha hm (i := i0) v
    rw [upd_same, if_pos rfl]
    rw [hl] at h1
    exact h1⟩
theorem Sx.done (h : Sx w8 bm t D ws i0 v l W) (hl : l 17 = true) : Kp w8 W bm t D (ws.set i0 v) := by
  have := h.st
  rwa [if_pos hl] at this
end
set_option maxHeartbeats 16000000 in
theorem walk_on (s : Hs) (d : Hd_) (k : Sh.Ks) (xs : List Int) (w : World) (hf : Sh.fewK s k = true) (hm : mayB0 s d = true) (hz : Cl.Sz w) (hp : Hp w w.heap.size s d) (hv : ∀ i, -9223372036854775808 ≤ d.ws.getD i 0 ∧ d.ws.getD i 0 ≤ 9223372036854775807) (hk : Sh.WRow w w.heap.size k xs) : Calls Tryz.prog 6 #[(.agg #[.slice s.w.a s.w.n s.w.c, .slice s.p.a s.p.n s.p.c, .slice (s.u 0).a (s.u 0).n (s.u 0).c, .slice (s.u 1).a (s.u 1).n (s.u 1).c, .slice (s.u 2).a (s.u 2).n (s.u 2).c, .slice s.c.a s.c.n s.c.c]), (.agg #[.int .i64 k.ph, .int .i64 k.ep, .bool k.mj, .slice k.wk.a k.wk.n k.wk.c, .bool k.ov, .int .i64 k.pa, .int .i64 k.pf, .int .i64 k.ps, .int .i64 k.pc, .bool k.me])] w fun e w' => e = .returned (.bool true) ∧ Below w.heap.size w w' := by
  obtain ⟨hin, hx, hwn, hlen⟩ := few_in hf hp hv hk hz
  have CM := Lib.hid (fun W (hW : Hold W (⟨s, k, d, xs⟩ : Q2)) (hz : Cl.Sz W) => pmay0_any s d W hW.h hz hin.fine)
  rw [hm] at CM
  have CS := Lib.hid (fun W (hW : Hold W (⟨s, k, d, xs⟩ : Q2)) (hz : Cl.Sz W) => step_any (⟨s, k, d, xs⟩ : Q2) W ⟨hW, hz, hin.fine, hin.x⟩)
  have KP := Lib.hid (step_kept hlen k xs)
  have KN := Lib.hid (step_kin s d k xs hlen)
  have KS := Lib.hid (step_same s d k xs)
  have HFI := Lib.hid (And.intro hin.fine hlen)
  have CU := Lib.hid (fun W (hW : Hold W (⟨s, k, d, xs⟩ : Q2)) => Tr.rused_any (⟨s, k, d, xs⟩ : Q2) W hW hin.fine)
  clear hin hx hwn hlen hm
  have HZ := Lib.hid hz
  have CF := Lib.hid (fun W => Tr.few_any s k W)
  rw [hf] at CF
  go_enter Tryz.func6, Tryz.ntmps6
  go_upto_region 1 with fail
  obtain ⟨W1, hW1⟩ : ∃ W1, W1 = (w.alloc (.cells #[.slice s.w.a s.w.n s.w.c, .slice s.p.a s.p.n s.p.c, .slice (s.u 0).a (s.u 0).n (s.u 0).c, .slice (s.u 1).a (s.u 1).n (s.u 1).c, .slice (s.u 2).a (s.u 2).n (s.u 2).c, .slice s.c.a s.c.n s.c.c] 28)).alloc (.cells #[.int .i64 k.ph, .int .i64 k.ep, .bool k.mj, .slice k.wk.a k.wk.n k.wk.c, .bool k.ov, .int .i64 k.pa, .int .i64 k.pf, .int .i64 k.ps, .int .i64 k.pc, .bool k.me] 30) := ⟨_, rfl⟩
  have L1 := Lib.hid (((lq_none w).two (s := s) (k := k) hW1).held (n := (⟨s, k, d, xs⟩ : Q2)) ⟨hp.next (by rw [hW1]; exact ((Below.refl _ _).alloc (Nat.le_refl _) _).alloc (by simp) _), hk.next (by rw [hW1]; exact ((Below.refl _ _).alloc (Nat.le_refl _) _).alloc (by simp) _)⟩)
  rw [← hW1]
  clear hW1 hz hp hv hk hf
  go_upto_region 2 with ((go_at_call 22); (with_reducible refine (Tr.awake_any _ (L1.out.over HZ.out)).mono ?_); rintro e9 w2 ⟨rfl, hb9⟩; have L2 := Lib.hid (L1.out.next hb9); clear hb9 L1)
  go_upto_region 3 with (first
    | (refine w_load (ldHb (L2.out.bx (w.heap.size) (hv s) (by simp))) rfl rfl rfl rfl ?_)
    | (refine w_load (ldKb (L2.out.bx (w.heap.size + 1) (kv k) (by simp))) rfl rfl rfl rfl ?_)
    | ((go_at_call 23); (with_reducible refine (CF.out _).mono ?_); rintro e9 w3 ⟨rfl, hb9⟩; have L3 := Lib.hid (L2.out.next hb9); clear hb9 L2))
  go_upto_region 5 with (first
    | (refine w_loadg (ldHb (L3.out.bx (w.heap.size) (hv s) (by simp))) rfl (by kernel_rfl) rfl rfl ?_)
    | fail)
  refine (CM.out _ (L3.out.at _ (by simp)) (L3.out.over HZ.out)).mono ?_
  rintro e9 v4 ⟨rfl, hb9⟩
  have L4 := Lib.hid (L3.out.next hb9)
  clear hb9 L3
  go_upto_region 5 with fail
  go_upto_region 6 with (first
    | (refine w_load (ldHb (L4.out.bx (w.heap.size) (hv s) (by simp))) rfl rfl rfl rfl ?_)
    | (refine w_load (ldKb (L4.out.bx (w.heap.size + 1) (kv k) (by simp))) rfl rfl rfl rfl ?_)
    | ((go_at_call 27); (with_reducible refine (CS.out _ (L4.out.at _ (by simp)) (L4.out.over HZ.out)).mono ?_); rintro e9 w5 ⟨z, rfl, hl9, hd9, hx9, hk9, hh9, _, hb9⟩; have L5 := Lib.hid ((L4.out.next hb9).held (n := z) hh9); have Z5 : Hid (Lens s z.s ∧ z.d = (stepR s d k xs).d ∧ z.k = Sh.kw (stepR s d k xs).k z.k.wk (stepR s d k xs).k.ov) := Lib.hid ⟨hl9, hd9, hk9⟩; clear hl9 hd9 hx9 hk9 hh9 hb9 L4))
  obtain ⟨W6, hW6⟩ : ∃ W6, W6 = (w5.alloc (.cells #[.slice z.s.w.a z.s.w.n z.s.w.c, .slice z.s.p.a z.s.p.n z.s.p.c, .slice (z.s.u 0).a (z.s.u 0).n (z.s.u 0).c, .slice (z.s.u 1).a (z.s.u 1).n (z.s.u 1).c, .slice (z.s.u 2).a (z.s.u 2).n (z.s.u 2).c, .slice z.s.c.a z.s.c.n z.s.c.c] 28)).alloc (.cells #[.int .i64 z.k.ph, .int .i64 z.k.ep, .bool z.k.mj, .slice z.k.wk.a z.k.wk.n z.k.wk.c, .bool z.k.ov, .int .i64 z.k.pa, .int .i64 z.k.pf, .int .i64 z.k.ps, .int .i64 z.k.pc, .bool z.k.me] 30) := ⟨_, rfl⟩
  have L6 := Lib.hid (L5.out.two (s := z.s) (k := z.k) hW6)
  have hb6 : Below w5.heap.size w5 W6 := by rw [hW6]; exact ((Below.refl _ _).alloc (Nat.le_refl _) _).alloc (by simp) _
  obtain ⟨b5, hb5⟩ : ∃ b5, b5 = w5.heap.size := ⟨_, rfl⟩
  rw [← hb5] at L6
  rw [← hW6, ← hb5]
  have A6 : Hid (At8 w W6 s k d xs b5 z) := Lib.hid ⟨⟨L6.out.bel, fun x hx => L6.out.box x (by simpa using hx), fun x hx => (L5.out.hold x (by simpa using hx)).next hb6⟩, Z5.out.1, HFI.out.1, by rw [Z5.out.2.1]; exact fine_lens Z5.out.1 (KN.out.fine HFI.out.1), by rw [Z5.out.2.1]; exact KP.out, by rw [Z5.out.2.2]; exact ⟨KS.out.2, KS.out.1⟩, by rw [Z5.out.2.1]; exact KN.out.used, by rw [Z5.out.2.1]; exact KN.out.wlen, HFI.out.2⟩
  clear hW6 hb6 hb5 L5 L6 CS KP KN KS HFI Z5
  have r0 := (A6.out.lq.bx b5 (hv z.s) (by simp)).cel 0 (.slice z.s.w.a z.s.w.n z.s.w.c) rfl
  have s0 := (A6.out.lq.bx w.heap.size (hv s) (by simp)).cel 0 (.slice s.w.a s.w.n s.w.c) rfl
  have zw : z.s.w.n = s.w.n := A6.out.len.1
  have z1 : decide ((z.s.w.n : Int) = (s.w.n : Int)) = true := decide_eq_true (by omega)
  have z2 : ((z.s.w.n : Int) == (s.w.n : Int)) = true := z1
  have z3 : ((z.s.w.n : Int) != (s.w.n : Int)) = false := by rw [bne, z2]; rfl
  have z4 : (z.s.w.n == s.w.n) = true := by simp [zw]
  have z5 : (z.s.w.n != s.w.n) = false := by simp [zw]
  go_upto_region 8 with fail
  clear r0 s0 zw z1 z2 z3 z4 z5
  go_upto_region 9 with (first
    | (refine w_load (ldHb (A6.out.lq.bx w.heap.size (hv s) (by simp))) rfl rfl rfl rfl ?_)
    | ((go_at_call 31); (with_reducible refine (CU.out _ (A6.out.lq.at _ (by simp))).mono ?_); rintro e9 w8 ⟨⟨va, vn, vc⟩, rfl, ho, hb2⟩; have A8 : Hid (At8 w w8 s k d xs b5 z) := Lib.hid ⟨A6.out.lq.next hb2, A6.out.len, A6.out.fine, A6.out.finz, A6.out.kept, A6.out.kk, A6.out.used, A6.out.wl, A6.out.hl⟩; have OH := Lib.hid ho; clear ho hb2))
  obtain ⟨G, hGe⟩ : ∃ G, G = usedL s d := ⟨_, rfl⟩
  have HGE := Lib.hid hGe
  have hvn : vn = G.length := by rw [hGe]; have h1 := OH.out.1; simpa using h1.symm
  have hG : vn ≤ 512 := by rw [hvn, hGe]; exact Nat.le_trans (used_len s d) (allS_len d.f s.p.n)
  have HG := Lib.hid hvn
  have R8 : Hid (Row w8 w8.heap.size va vn G) := Lib.hid (by rw [hGe]; exact Sh.row_of (v := ⟨va, vn, vc⟩) OH.out)
  clear A6 CU OH hGe hvn
  have CO := Lib.hid (fun W (hW : Hold W z) => rown7_any z.s z.d W hW.h A8.out.finz.wn (by have := A8.out.finz.pn; omega) A8.out.finz.cn (fun j hj => by have h1 := hW.h.free.len j hj; have h2 := A8.out.finz.len; rw [upTo3] at h2; rcases (show j = 0 ∨ j = 1 ∨ j = 2 by omega) with rfl | rfl | rfl <;> omega))
  go_upto_region 10 with (first
    | (refine w_load (ldHb (A8.out.lq.bx b5 (hv z.s) (by simp))) rfl rfl rfl rfl ?_)
    | ((go_at_call 32); (with_reducible refine (CO.out _ (A8.out.lq.at z (by simp))).mono ?_); rintro e9 w9 ⟨t, rfl, ho9, hp9, hl9, _, hs9, hb9⟩; have O9 := Lib.hid (And.intro ho9 (And.intro hp9 (And.intro hl9 (And.intro hs9 hb9)))); clear ho9 hp9 hl9 hs9 hb9))
  obtain ⟨WA, hWA⟩ : ∃ WA, WA = w9.alloc (.cells #[.slice t.w.a t.w.n t.w.c, .slice t.p.a t.p.n t.p.c, .slice (t.u 0).a (t.u 0).n (t.u 0).c, .slice (t.u 1).a (t.u 1).n (t.u 1).c, .slice (t.u 2).a (t.u 2).n (t.u 2).c, .slice t.c.a t.c.n t.c.c] 28) := ⟨_, rfl⟩
  have hba : Below w9.heap.size w9 WA := by rw [hWA]; exact (Below.refl _ _).alloc (Nat.le_refl _) _
  obtain ⟨bm, hbm⟩ : ∃ bm, bm = w9.heap.size := ⟨_, rfl⟩
  have KA : Hid (Kp w8 WA bm t z.d z.d.ws) := Lib.hid ⟨O9.out.2.2.2.2.trans (hba.mono O9.out.2.2.2.2.size), by rw [hWA, hbm]; exact Box.new w9 (hv t) _, Sh.own_next O9.out.1 hba, O9.out.2.1.next hba, O9.out.2.2.2.1, fun x hx e => by have := (O9.out.1.lt x.block (by rw [Ls.ownBlock_slice, hx]; rfl)).2; omega⟩
  have LT := Lib.hid O9.out.2.2.1
  rw [← hWA, ← hbm]
  clear hWA hba hbm O9 CO
  go_wp2
  go_loopg [11] vn (fun g i wr => ∃ q : Nat, q + g = vn ∧ i = .int .i64 q ∧ Hid (Kp w8 wr bm t z.d (mixW d (G.take q) z.d.ws)))
  case atStart => exact ⟨0, by omega, rfl, KA⟩
  case round =>
    obtain ⟨q, hq, rfl, K0⟩ := hrel
    have HJ := Lib.hid hq
    have hq1 : q ≤ vn := by omega
    clear hq KA
    obtain ⟨wo, rfl⟩ : ∃ wo : World, wo = wr := ⟨_, rfl⟩
    by_cases hlt : q < vn
    · have d0 : decide ((q : Int) < vn) = true := decide_eq_true (by omega)
      have HQ : Hid (q < G.length) := Lib.hid (by have := HG.out; omega)
      obtain ⟨b, off, rfl, hbl', hcell⟩ := R8.out.2 (by omega)
      have DQ := Lib.hid (hcell q hlt)
      have DN : Hid (b < w8.heap.size) := Lib.hid hbl'
      obtain ⟨y, hy⟩ : ∃ y, y = G.getD q 0 := ⟨_, rfl⟩
      rw [← hy] at DQ
      have HY := Lib.hid hy
      have hyu : y ∈ usedL s d := by rw [← HGE.out, hy]; exact getD_mem HQ.out
      have h0 := Sh.used_E hyu
      have FI := Lib.hid (fld_in h0)
      have hyz : y ∈ usedL z.s z.d := by rw [(Sh.kin_same (d := z.d) A8.out.len).used, A8.out.used]; exact hyu
      have h0z := Sh.used_E hyz
      have K1 := A8.out.kept.one y (by have := FI.out; omega)
      have CX := Lib.hid (fun W (hW : Hold W (⟨s, k, d, xs⟩ : Q2)) => rhead_any s d y W hW.h A8.out.fine)
      have CY := Lib.hid (fun W (hW : Hold W z) => rhead_any z.s z.d y W hW.h A8.out.finz)
      have C1 := Lib.hid (fun W (hW : Hold W (⟨s, k, d, xs⟩ : Q2)) => rcol_any s d k y W hW.h A8.out.fine)
      have C2 := Lib.hid (fun W (hW : Hold W z) => rcol_any z.s z.d z.k y W hW.h A8.out.finz)
      rw [(Sh.obj_of h0).val, h0] at CX
      rw [(Sh.obj_of h0z).val, h0z, K1.old, K1.born, K1.n] at CY
      have eold : ∀ xo, decide (wd d y / 2 % 2 = 1) = xo → xo = true → k.mj = false → colQ s d k.mj k.ep y = 0 ∧ colQ z.s z.d z.k.mj z.k.ep y = 0 := fun xo h1 h2 h3 => by
        subst h1
        have h4 := of_decide_eq_true h2
        exact ⟨col_old h4 h3, col_old (of_decide_eq_true (K1.old.trans h2)) (by rw [A8.out.kk.2]; exact h3)⟩
      have ecol : colQ s d k.mj k.ep y ≤ colQ z.s z.d z.k.mj z.k.ep y := by
        have h1 := A8.out.kept.col y
        have h2 : colQ z.s z.d z.k.mj z.k.ep y = colQ s z.d k.mj k.ep y := by
          rw [A8.out.kk.1, A8.out.kk.2]
          unfold colQ
          rw [(head_lens A8.out.len z.d y).1]
        rw [h2]
        exact h1
      generalize hgo : decide (wd d y / 2 % 2 = 1) = xo at CX CY eold
      generalize hge : decide (wd d y / 4 % 2 = 1) = xe at CX
      generalize hge2 : decide (wd z.d y / 4 % 2 = 1) = ye at CY
      generalize hgb : wd d y / 1024 % 4194304 = xb at CX CY
      generalize hgm : wd d y / 4294967296 = xm at CX
      generalize hgm2 : wd z.d y / 4294967296 = ym at CY
      generalize hgn : nOf (wd d y) = N at CX CY
      generalize hc1 : colQ s d k.mj k.ep y = cw at C1 eold ecol
      generalize hc2 : colQ z.s z.d z.k.mj z.k.ep y = cn at C2 eold ecol
      have EO := Lib.hid (eold xo rfl)
      have EC := Lib.hid ecol
      clear hcell hy hbl' hyu h0 hyz h0z K1 hgo hge hge2 hgb hgm hgm2 hgn hc1 hc2 eold ecol
      go_upto_region 13 with fail
      refine Sh.region_gen fun a0 ha0 => ?_
      have G2 : a0.tmps[2]? = some (.pointer (some ⟨w.heap.size, 0, none⟩)) := by rw [ha0]; rfl
      have G9 : a0.tmps[9]? = some (.slice (some ⟨b, off, none⟩) vn vc) := by rw [ha0]; rfl
      have G11 : a0.tmps[11]? = some (.int .i64 (q : Int)) := by rw [ha0]; rfl
      have TZ : a0.tmps.size = 165 := by rw [ha0]; rfl
      have HA := Lib.hid ha0
      clear ha0
      refine region_planK (by kernel_rfl) (by kernel_rfl) (by rw [TZ]; kernel_rfl) (fun (x : Nat) (i : Nat) => (match i with | 0 => (.agg #[.slice s.w.a s.w.n s.w.c, .slice s.p.a s.p.n s.p.c, .slice (s.u 0).a (s.u 0).n (s.u 0).c, .slice (s.u 1).a (s.u 1).n (s.u 1).c, .slice (s.u 2).a (s.u 2).n (s.u 2).c, .slice s.c.a s.c.n s.c.c]) | 1 => .slice (some ⟨b, off, none⟩) vn vc | 2 => .int .i64 (q : Int) | 3 => .pointer (some ⟨b, off + q, none⟩) | 4 => .int .i64 y | 5 => .tuple #[.agg #[.bool true, .bool xo, .bool xe, .int .i64 N, .int .i64 xb, .int .i64 xm], .int .i64 0] | 6 => .tuple #[.agg #[.bool true, .bool xo, .bool xe, .int .i64 N, .int .i64 xb, .int .i64 xm], .int .i64 0] | 7 => .agg #[.bool true, .bool xo, .bool xe, .int .i64 N, .int .i64 xb, .int .i64 xm] | 8 => .int .i64 0 | 9 => .pointer (some ⟨x, 0, none⟩) | 10 => undef | 11 => .int .i64 0 | _ => undef : Value)) (fun _ => false) ?zeroA (fun x l W => Hr wo [.bool true, .bool xo, .bool xe, .int .i64 N, .int .i64 xb, .int .i64 xm] 9 10 x l W) 0 ?startA ?wantA ?skipA ?stepA ?doneA
      case zeroA => exact fun _ _ h => by cases h
      case startA => exact hr_start _ _ _ _ _
      case skipA => exact fun i l x W h _ => by cases h
      case wantA =>
        rintro i o9 l a9 x ho hP haft
        have hi : i < 12 := (Array.getElem?_eq_some_iff.1 ho).1
        rcases (show i = 0 ∨ i = 1 ∨ i = 2 ∨ i = 3 ∨ i = 4 ∨ i = 5 ∨ i = 6 ∨ i = 7 ∨ i = 8 ∨ i = 9 ∨ i = 10 ∨ i = 11 by omega) with rfl | rfl | rfl | rfl | rfl | rfl | rfl | rfl | rfl | rfl | rfl | rfl
        · obtain rfl := Option.some.inj ho
          rfl
        · obtain rfl := Option.some.inj ho
          rfl
        · obtain rfl := Option.some.inj ho
          rfl
        · obtain rfl := Option.some.inj ho
          rfl
        · obtain rfl := Option.some.inj ho
          rfl
        · obtain rfl := Option.some.inj ho
          rfl
        · obtain rfl := Option.some.inj ho
          rfl
        · obtain rfl := Option.some.inj ho
          rfl
        · obtain rfl := Option.some.inj ho
          rfl
        · obtain rfl := Option.some.inj ho
          rfl
        · obtain rfl := Option.some.inj ho
          rfl
        · obtain rfl := Option.some.inj ho
          rfl
      case stepA =>
        rintro i o9 l a9 x W9 ho hP hkp hcd hI hl hsk haft K hK
        have hi : i < 12 := (Array.getElem?_eq_some_iff.1 ho).1
        rcases (show i = 0 ∨ i = 1 ∨ i = 2 ∨ i = 3 ∨ i = 4 ∨ i = 5 ∨ i = 6 ∨ i = 7 ∨ i = 8 ∨ i = 9 ∨ i = 10 ∨ i = 11 by omega) with rfl | rfl | rfl | rfl | rfl | rfl | rfl | rfl | rfl | rfl | rfl | rfl
        · clear hsk
          obtain rfl := Option.some.inj ho
          have q2 := (hP.keep (j := 2) (by kernel_rfl)).trans G2
          exact Mu.p_load rfl (Mu.ev q2) (ldHb (show Box W9 (w.heap.size) (hv s) from (A8.out.lq.next (K0.out.bel.trans ((hI.bel).mono K0.out.bel.size))).bx _ _ (by simp))) (hK x _ (fun _ _ => rfl) (hI.pure (by decide : ¬ 0 = 9) (by decide : ¬ 0 = 10)))
        · clear hsk
          obtain rfl := Option.some.inj ho
          have q9 := (hP.keep (j := 9) (by kernel_rfl)).trans G9
          go_simp
          exact hK x _ (fun _ _ => rfl) (hI.pure (by decide : ¬ 1 = 9) (by decide : ¬ 1 = 10))
        · clear hsk
          obtain rfl := Option.some.inj ho
          have q11 := (hP.keep (j := 11) (by kernel_rfl)).trans G11
          go_simp
          exact hK x _ (fun _ _ => rfl) (hI.pure (by decide : ¬ 2 = 9) (by decide : ¬ 2 = 10))
        · clear hsk
          obtain rfl := Option.some.inj ho
          have e1 := hP.got 1 _ 59 rfl (haft ⟨1, .data⟩ (by simp) rfl) rfl
          have e2 := hP.got 2 _ 60 rfl (haft ⟨2, .data⟩ (by simp) rfl) rfl
          try dsimp only at e1 e2
          go_simp
          exact hK x _ (fun _ _ => rfl) (hI.pure (by decide : ¬ 3 = 9) (by decide : ¬ 3 = 10))
        · clear hsk
          obtain rfl := Option.some.inj ho
          have e3 := hP.got 3 _ 61 rfl (haft ⟨3, .data⟩ (by simp) rfl) rfl
          try dsimp only at e3
          have c9 := (Below.cell (p := ⟨b, off + q, none⟩) (K0.out.bel.trans ((hI.bel).mono K0.out.bel.size)) DN.out).trans DQ.out
          have l9 : b < W9.heap.size := Nat.lt_of_lt_of_le DN.out (K0.out.bel.trans ((hI.bel).mono K0.out.bel.size)).size
          go_simp
          exact hK x _ (fun _ _ => rfl) (hI.pure (by decide : ¬ 4 = 9) (by decide : ¬ 4 = 10))
        · clear hsk
          obtain rfl := Option.some.inj ho
          have e0 := hP.got 0 _ 58 rfl (haft ⟨0, .data⟩ (by simp) rfl) rfl
          have e4 := hP.got 4 _ 62 rfl (haft ⟨4, .data⟩ (by simp) rfl) rfl
          try dsimp only at e0 e4
          go_simp
          refine (CX.out W9 ((A8.out.lq.next (K0.out.bel.trans ((hI.bel).mono K0.out.bel.size))).at (⟨s, k, d, xs⟩ : Q2) (by simp))).mono ?_
          rintro e9 w9 ⟨rfl, hb9⟩
          exact hK x _ (fun _ _ => rfl) ((hI.next hb9).pure (by decide : ¬ 5 = 9) (by decide : ¬ 5 = 10))
        · clear hsk
          obtain rfl := Option.some.inj ho
          have e5 := hP.got 5 _ 63 rfl (haft ⟨5, .data⟩ (by simp) rfl) rfl
          try dsimp only at e5
          go_simp
          exact hK x _ (fun _ _ => rfl) (hI.pure (by decide : ¬ 6 = 9) (by decide : ¬ 6 = 10))
        · clear hsk
          obtain rfl := Option.some.inj ho
          have e6 := hP.got 6 _ 57 rfl (haft ⟨6, .data⟩ (by simp) rfl) rfl
          try dsimp only at e6
          go_simp
          exact hK x _ (fun _ _ => rfl) (hI.pure (by decide : ¬ 7 = 9) (by decide : ¬ 7 = 10))
        · clear hsk
          obtain rfl := Option.some.inj ho
          have e6 := hP.got 6 _ 57 rfl (haft ⟨6, .data⟩ (by simp) rfl) rfl
          try dsimp only at e6
          go_simp
          exact hK x _ (fun _ _ => rfl) (hI.pure (by decide : ¬ 8 = 9) (by decide : ¬ 8 = 10))
        · clear hsk
          obtain rfl := Option.some.inj ho
          go_simp
          refine hK W9.heap.size _ ?_ (hI.lay hl)
          intro j hj
          match j, hj with
          | 0, hj => rfl
          | 1, hj => rfl
          | 2, hj => rfl
          | 3, hj => rfl
          | 4, hj => rfl
          | 5, hj => rfl
          | 6, hj => rfl
          | 7, hj => rfl
          | 8, hj => rfl
          | 9, hj => rw [hl] at hj; cases hj
          | 10, hj => rfl
          | 11, hj => rfl
          | j + 12, _ => rfl
        · clear hsk
          obtain rfl := Option.some.inj ho
          have h9 := haft ⟨9, .data⟩ (by simp) rfl
          have e9 := hP.got 9 _ 12 rfl h9 rfl
          have e7 := hP.got 7 _ 64 rfl (haft ⟨7, .data⟩ (by simp) rfl) rfl
          try dsimp only at e9 e7
          exact Mu.p_store rfl (Mu.ev e9) (Mu.ev e7) (hI.run h9 hl rfl) (hK x _ (fun _ _ => rfl) (hI.put h9 hl rfl))
        · clear hsk
          obtain rfl := Option.some.inj ho
          have e8 := hP.got 8 _ 65 rfl (haft ⟨8, .data⟩ (by simp) rfl) rfl
          try dsimp only at e8
          go_simp
          exact hK x _ (fun _ _ => rfl) (hI.pure (by decide : ¬ 11 = 9) (by decide : ¬ 11 = 10))
      case doneA =>
        rintro l a9 x W9 hP hI hall
        have R9 := Lib.hid (hI.done (hall 9 (by decide)) (hall 10 (by decide)))
        obtain rfl := pl_full hP (by rw [TZ]; kernel_rfl) hall [some 58, some 59, some 60, some 61, some 62, some 63, some 57, some 64, some 65, some 12, none, some 13] (by rfl)
        clear hP hI hall TZ G2 G9 G11
        rw [HA.out]
        simp only [putD, Act.put, List.setIfInBounds_toArray, List.set_cons_succ, List.set_cons_zero]
        clear HA
        have KB := Lib.hid (K0.out.next R9.out.1)
        have X1 : Hid (w8.heap.size ≤ x ∧ Box W9 x [.bool true, .bool xo, .bool xe, .int .i64 N, .int .i64 xb, .int .i64 xm]) := Lib.hid ⟨Nat.le_trans K0.out.bel.size R9.out.2.1, R9.out.2.2⟩
        clear R9
        obtain ⟨x1, rfl⟩ : ∃ x1 : Nat, x1 = x := ⟨_, rfl⟩
        obtain ⟨wb, rfl⟩ : ∃ wb : World, wb = W9 := ⟨_, rfl⟩
        go_upto_region 14 with fail
        refine Sh.region_gen fun a0 ha0 => ?_
        have G7 : a0.tmps[7]? = some (.pointer (some ⟨b5, 0, none⟩)) := by rw [ha0]; rfl
        have G9 : a0.tmps[9]? = some (.slice (some ⟨b, off, none⟩) vn vc) := by rw [ha0]; rfl
        have G11 : a0.tmps[11]? = some (.int .i64 (q : Int)) := by rw [ha0]; rfl
        have TZ : a0.tmps.size = 165 := by rw [ha0]; rfl
        have HA := Lib.hid ha0
        clear ha0
        refine region_planK (by kernel_rfl) (by kernel_rfl) (by rw [TZ]; kernel_rfl) (fun (x : Nat) (i : Nat) => (match i with | 0 => (.agg #[.slice z.s.w.a z.s.w.n z.s.w.c, .slice z.s.p.a z.s.p.n z.s.p.c, .slice (z.s.u 0).a (z.s.u 0).n (z.s.u 0).c, .slice (z.s.u 1).a (z.s.u 1).n (z.s.u 1).c, .slice (z.s.u 2).a (z.s.u 2).n (z.s.u 2).c, .slice z.s.c.a z.s.c.n z.s.c.c]) | 1 => .slice (some ⟨b, off, none⟩) vn vc | 2 => .int .i64 (q : Int) | 3 => .pointer (some ⟨b, off + q, none⟩) | 4 => .int .i64 y | 5 => .tuple #[.agg #[.bool true, .bool xo, .bool ye, .int .i64 N, .int .i64 xb, .int .i64 ym], .int .i64 0] | 6 => .tuple #[.agg #[.bool true, .bool xo, .bool ye, .int .i64 N, .int .i64 xb, .int .i64 ym], .int .i64 0] | 7 => .agg #[.bool true, .bool xo, .bool ye, .int .i64 N, .int .i64 xb, .int .i64 ym] | 8 => .int .i64 0 | 9 => .pointer (some ⟨x, 0, none⟩) | 10 => undef | 11 => .int .i64 0 | _ => undef : Value)) (fun _ => false) ?zeroB (fun x l W => Hr wb [.bool true, .bool xo, .bool ye, .int .i64 N, .int .i64 xb, .int .i64 ym] 9 10 x l W) 0 ?startB ?wantB ?skipB ?stepB ?doneB
        case zeroB => exact fun _ _ h => by cases h
        case startB => exact hr_start _ _ _ _ _
        case skipB => exact fun i l x W h _ => by cases h
        case wantB =>
          rintro i o9 l a9 x ho hP haft
          have hi : i < 12 := (Array.getElem?_eq_some_iff.1 ho).1
          rcases (show i = 0 ∨ i = 1 ∨ i = 2 ∨ i = 3 ∨ i = 4 ∨ i = 5 ∨ i = 6 ∨ i = 7 ∨ i = 8 ∨ i = 9 ∨ i = 10 ∨ i = 11 by omega) with rfl | rfl | rfl | rfl | rfl | rfl | rfl | rfl | rfl | rfl | rfl | rfl
          · obtain rfl := Option.some.inj ho
            rfl
          · obtain rfl := Option.some.inj ho
            rfl
          · obtain rfl := Option.some.inj ho
            rfl
          · obtain rfl := Option.some.inj ho
            rfl
          · obtain rfl := Option.some.inj ho
            rfl
          · obtain rfl := Option.some.inj ho
            rfl
          · obtain rfl := Option.some.inj ho
            rfl
          · obtain rfl := Option.some.inj ho
            rfl
          · obtain rfl := Option.some.inj ho
            rfl
          · obtain rfl := Option.some.inj ho
            rfl
          · obtain rfl := Option.some.inj ho
            rfl
          · obtain rfl := Option.some.inj ho
            rfl
        case stepB =>
          rintro i o9 l a9 x W9 ho hP hkp hcd hI hl hsk haft K hK
          have hi : i < 12 := (Array.getElem?_eq_some_iff.1 ho).1
          rcases (show i = 0 ∨ i = 1 ∨ i = 2 ∨ i = 3 ∨ i = 4 ∨ i = 5 ∨ i = 6 ∨ i = 7 ∨ i = 8 ∨ i = 9 ∨ i = 10 ∨ i = 11 by omega) with rfl | rfl | rfl | rfl | rfl | rfl | rfl | rfl | rfl | rfl | rfl | rfl
          · clear hsk
            obtain rfl := Option.some.inj ho
            have q7 := (hP.keep (j := 7) (by kernel_rfl)).trans G7
            exact Mu.p_load rfl (Mu.ev q7) (ldHb (show Box W9 (b5) (hv z.s) from (A8.out.lq.next (KB.out.bel.trans ((hI.bel).mono KB.out.bel.size))).bx _ _ (by simp))) (hK x _ (fun _ _ => rfl) (hI.pure (by decide : ¬ 0 = 9) (by decide : ¬ 0 = 10)))
          · clear hsk
            obtain rfl := Option.some.inj ho
            have q9 := (hP.keep (j := 9) (by kernel_rfl)).trans G9
            go_simp
            exact hK x _ (fun _ _ => rfl) (hI.pure (by decide : ¬ 1 = 9) (by decide : ¬ 1 = 10))
          · clear hsk
            obtain rfl := Option.some.inj ho
            have q11 := (hP.keep (j := 11) (by kernel_rfl)).trans G11
            go_simp
            exact hK x _ (fun _ _ => rfl) (hI.pure (by decide : ¬ 2 = 9) (by decide : ¬ 2 = 10))
          · clear hsk
            obtain rfl := Option.some.inj ho
            have e1 := hP.got 1 _ 68 rfl (haft ⟨1, .data⟩ (by simp) rfl) rfl
            have e2 := hP.got 2 _ 69 rfl (haft ⟨2, .data⟩ (by simp) rfl) rfl
            try dsimp only at e1 e2
            go_simp
            exact hK x _ (fun _ _ => rfl) (hI.pure (by decide : ¬ 3 = 9) (by decide : ¬ 3 = 10))
          · clear hsk
            obtain rfl := Option.some.inj ho
            have e3 := hP.got 3 _ 70 rfl (haft ⟨3, .data⟩ (by simp) rfl) rfl
            try dsimp only at e3
            have c9 := (Below.cell (p := ⟨b, off + q, none⟩) (KB.out.bel.trans ((hI.bel).mono KB.out.bel.size)) DN.out).trans DQ.out
            have l9 : b < W9.heap.size := Nat.lt_of_lt_of_le DN.out (KB.out.bel.trans ((hI.bel).mono KB.out.bel.size)).size
            go_simp
            exact hK x _ (fun _ _ => rfl) (hI.pure (by decide : ¬ 4 = 9) (by decide : ¬ 4 = 10))
          · clear hsk
            obtain rfl := Option.some.inj ho
            have e0 := hP.got 0 _ 67 rfl (haft ⟨0, .data⟩ (by simp) rfl) rfl
            have e4 := hP.got 4 _ 71 rfl (haft ⟨4, .data⟩ (by simp) rfl) rfl
            try dsimp only at e0 e4
            go_simp
            refine (CY.out W9 ((A8.out.lq.next (KB.out.bel.trans ((hI.bel).mono KB.out.bel.size))).at z (by simp))).mono ?_
            rintro e9 w9 ⟨rfl, hb9⟩
            exact hK x _ (fun _ _ => rfl) ((hI.next hb9).pure (by decide : ¬ 5 = 9) (by decide : ¬ 5 = 10))
          · clear hsk
            obtain rfl := Option.some.inj ho
            have e5 := hP.got 5 _ 72 rfl (haft ⟨5, .data⟩ (by simp) rfl) rfl
            try dsimp only at e5
            go_simp
            exact hK x _ (fun _ _ => rfl) (hI.pure (by decide : ¬ 6 = 9) (by decide : ¬ 6 = 10))
          · clear hsk
            obtain rfl := Option.some.inj ho
            have e6 := hP.got 6 _ 66 rfl (haft ⟨6, .data⟩ (by simp) rfl) rfl
            try dsimp only at e6
            go_simp
            exact hK x _ (fun _ _ => rfl) (hI.pure (by decide : ¬ 7 = 9) (by decide : ¬ 7 = 10))
          · clear hsk
            obtain rfl := Option.some.inj ho
            have e6 := hP.got 6 _ 66 rfl (haft ⟨6, .data⟩ (by simp) rfl) rfl
            try dsimp only at e6
            go_simp
            exact hK x _ (fun _ _ => rfl) (hI.pure (by decide : ¬ 8 = 9) (by decide : ¬ 8 = 10))
          · clear hsk
            obtain rfl := Option.some.inj ho
            go_simp
            refine hK W9.heap.size _ ?_ (hI.lay hl)
            intro j hj
            match j, hj with
            | 0, hj => rfl
            | 1, hj => rfl
            | 2, hj => rfl
            | 3, hj => rfl
            | 4, hj => rfl
            | 5, hj => rfl
            | 6, hj => rfl
            | 7, hj => rfl
            | 8, hj => rfl
            | 9, hj => rw [hl] at hj; cases hj
            | 10, hj => rfl
            | 11, hj => rfl
            | j + 12, _ => rfl
          · clear hsk
            obtain rfl := Option.some.inj ho
            have h9 := haft ⟨9, .data⟩ (by simp) rfl
            have e9 := hP.got 9 _ 14 rfl h9 rfl
            have e7 := hP.got 7 _ 73 rfl (haft ⟨7, .data⟩ (by simp) rfl) rfl
            try dsimp only at e9 e7
            exact Mu.p_store rfl (Mu.ev e9) (Mu.ev e7) (hI.run h9 hl rfl) (hK x _ (fun _ _ => rfl) (hI.put h9 hl rfl))
          · clear hsk
            obtain rfl := Option.some.inj ho
            have e8 := hP.got 8 _ 74 rfl (haft ⟨8, .data⟩ (by simp) rfl) rfl
            try dsimp only at e8
            go_simp
            exact hK x _ (fun _ _ => rfl) (hI.pure (by decide : ¬ 11 = 9) (by decide : ¬ 11 = 10))
        case doneB =>
          rintro l a9 x W9 hP hI hall
          have R9 := Lib.hid (hI.done (hall 9 (by decide)) (hall 10 (by decide)))
          obtain rfl := pl_full hP (by rw [TZ]; kernel_rfl) hall [some 67, some 68, some 69, some 70, some 71, some 72, some 66, some 73, some 74, some 14, none, some 15] (by rfl)
          clear hP hI hall TZ G7 G9 G11
          rw [HA.out]
          simp only [putD, Act.put, List.setIfInBounds_toArray, List.set_cons_succ, List.set_cons_zero]
          clear HA
          have KC := Lib.hid (KB.out.next R9.out.1)
          have X2 : Hid (Box W9 x1 [.bool true, .bool xo, .bool xe, .int .i64 N, .int .i64 xb, .int .i64 xm] ∧ Box W9 x [.bool true, .bool xo, .bool ye, .int .i64 N, .int .i64 xb, .int .i64 ym]) := Lib.hid ⟨X1.out.2.next R9.out.1, R9.out.2.2⟩
          clear R9
          obtain ⟨x2, rfl⟩ : ∃ x2 : Nat, x2 = x := ⟨_, rfl⟩
          obtain ⟨wc, rfl⟩ : ∃ wc : World, wc = W9 := ⟨_, rfl⟩
          go_upto_region 15 with fail
          refine Sh.region_gen fun a0 ha0 => ?_
          have G2 : a0.tmps[2]? = some (.pointer (some ⟨w.heap.size, 0, none⟩)) := by rw [ha0]; rfl
          have G3 : a0.tmps[3]? = some (.pointer (some ⟨w.heap.size + 1, 0, none⟩)) := by rw [ha0]; rfl
          have G9 : a0.tmps[9]? = some (.slice (some ⟨b, off, none⟩) vn vc) := by rw [ha0]; rfl
          have G11 : a0.tmps[11]? = some (.int .i64 (q : Int)) := by rw [ha0]; rfl
          have TZ : a0.tmps.size = 165 := by rw [ha0]; rfl
          have HA := Lib.hid ha0
          clear ha0
          refine region_planK (by kernel_rfl) (by kernel_rfl) (by rw [TZ]; kernel_rfl) (fun (x : Unit) (i : Nat) => (match i with | 0 => (.agg #[.slice s.w.a s.w.n s.w.c, .slice s.p.a s.p.n s.p.c, .slice (s.u 0).a (s.u 0).n (s.u 0).c, .slice (s.u 1).a (s.u 1).n (s.u 1).c, .slice (s.u 2).a (s.u 2).n (s.u 2).c, .slice s.c.a s.c.n s.c.c]) | 1 => (.agg #[.int .i64 k.ph, .int .i64 k.ep, .bool k.mj, .slice k.wk.a k.wk.n k.wk.c, .bool k.ov, .int .i64 k.pa, .int .i64 k.pf, .int .i64 k.ps, .int .i64 k.pc, .bool k.me]) | 2 => .slice (some ⟨b, off, none⟩) vn vc | 3 => .int .i64 (q : Int) | 4 => .pointer (some ⟨b, off + q, none⟩) | 5 => .int .i64 y | 6 => .int .i64 cw | 7 => .int .i64 cw | _ => undef : Value)) (fun _ => false) ?zeroC (fun _ _ W => Below wc.heap.size wc W) () ?startC ?wantC ?skipC ?stepC ?doneC
          case zeroC => exact fun _ _ h => by cases h
          case startC => exact ⟨rfl, rfl, rfl, Nat.le_refl _, fun _ _ => rfl⟩
          case skipC => exact fun i l x W h _ => by cases h
          case wantC =>
            rintro i o9 l a9 x ho hP haft
            have hi : i < 8 := (Array.getElem?_eq_some_iff.1 ho).1
            rcases (show i = 0 ∨ i = 1 ∨ i = 2 ∨ i = 3 ∨ i = 4 ∨ i = 5 ∨ i = 6 ∨ i = 7 by omega) with rfl | rfl | rfl | rfl | rfl | rfl | rfl | rfl
            · obtain rfl := Option.some.inj ho
              rfl
            · obtain rfl := Option.some.inj ho
              rfl
            · obtain rfl := Option.some.inj ho
              rfl
            · obtain rfl := Option.some.inj ho
              rfl
            · obtain rfl := Option.some.inj ho
              rfl
            · obtain rfl := Option.some.inj ho
              rfl
            · obtain rfl := Option.some.inj ho
              rfl
            · obtain rfl := Option.some.inj ho
              rfl
          case stepC =>
            rintro i o9 l a9 x W9 ho hP hkp hcd hI hl hsk haft K hK
            have hi : i < 8 := (Array.getElem?_eq_some_iff.1 ho).1
            rcases (show i = 0 ∨ i = 1 ∨ i = 2 ∨ i = 3 ∨ i = 4 ∨ i = 5 ∨ i = 6 ∨ i = 7 by omega) with rfl | rfl | rfl | rfl | rfl | rfl | rfl | rfl
            · clear hsk
              obtain rfl := Option.some.inj ho
              have q2 := (hP.keep (j := 2) (by kernel_rfl)).trans G2
              exact Mu.p_load rfl (Mu.ev q2) (ldHb (show Box W9 (w.heap.size) (hv s) from (A8.out.lq.next (KC.out.bel.trans ((hI).mono KC.out.bel.size))).bx _ _ (by simp))) (hK () _ (fun _ _ => rfl) hI)
            · clear hsk
              obtain rfl := Option.some.inj ho
              have q3 := (hP.keep (j := 3) (by kernel_rfl)).trans G3
              exact Mu.p_load rfl (Mu.ev q3) (ldKb (show Box W9 (w.heap.size + 1) (kv k) from (A8.out.lq.next (KC.out.bel.trans ((hI).mono KC.out.bel.size))).bx _ _ (by simp))) (hK () _ (fun _ _ => rfl) hI)
            · clear hsk
              obtain rfl := Option.some.inj ho
              have q9 := (hP.keep (j := 9) (by kernel_rfl)).trans G9
              go_simp
              exact hK () _ (fun _ _ => rfl) hI
            · clear hsk
              obtain rfl := Option.some.inj ho
              have q11 := (hP.keep (j := 11) (by kernel_rfl)).trans G11
              go_simp
              exact hK () _ (fun _ _ => rfl) hI
            · clear hsk
              obtain rfl := Option.some.inj ho
              have e2 := hP.got 2 _ 77 rfl (haft ⟨2, .data⟩ (by simp) rfl) rfl
              have e3 := hP.got 3 _ 78 rfl (haft ⟨3, .data⟩ (by simp) rfl) rfl
              try dsimp only at e2 e3
              go_simp
              exact hK () _ (fun _ _ => rfl) hI
            · clear hsk
              obtain rfl := Option.some.inj ho
              have e4 := hP.got 4 _ 79 rfl (haft ⟨4, .data⟩ (by simp) rfl) rfl
              try dsimp only at e4
              have c9 := (Below.cell (p := ⟨b, off + q, none⟩) (KC.out.bel.trans ((hI).mono KC.out.bel.size)) DN.out).trans DQ.out
              have l9 : b < W9.heap.size := Nat.lt_of_lt_of_le DN.out (KC.out.bel.trans ((hI).mono KC.out.bel.size)).size
              go_simp
              exact hK () _ (fun _ _ => rfl) hI
            · clear hsk
              obtain rfl := Option.some.inj ho
              have e0 := hP.got 0 _ 75 rfl (haft ⟨0, .data⟩ (by simp) rfl) rfl
              have e1 := hP.got 1 _ 76 rfl (haft ⟨1, .data⟩ (by simp) rfl) rfl
              have e5 := hP.got 5 _ 80 rfl (haft ⟨5, .data⟩ (by simp) rfl) rfl
              try dsimp only at e0 e1 e5
              go_simp
              refine (C1.out W9 ((A8.out.lq.next (KC.out.bel.trans ((hI).mono KC.out.bel.size))).at (⟨s, k, d, xs⟩ : Q2) (by simp))).mono ?_
              rintro e9 w9 ⟨rfl, hb9⟩
              exact hK () _ (fun _ _ => rfl) (hI.trans (hb9.mono hI.size))
            · clear hsk
              obtain rfl := Option.some.inj ho
              have e6 := hP.got 6 _ 81 rfl (haft ⟨6, .data⟩ (by simp) rfl) rfl
              try dsimp only at e6
              go_simp
              exact hK () _ (fun _ _ => rfl) hI
          case doneC =>
            rintro l a9 x W9 hP hI hall
            have R9 := Lib.hid hI
            obtain rfl := pl_full hP (by rw [TZ]; kernel_rfl) hall [some 75, some 76, some 77, some 78, some 79, some 80, some 81, some 16] (by rfl)
            clear hP hI hall TZ G2 G3 G9 G11
            rw [HA.out]
            simp only [putD, Act.put, List.setIfInBounds_toArray, List.set_cons_succ, List.set_cons_zero]
            clear HA
            have KD := Lib.hid (KC.out.next R9.out)
            have X3 := Lib.hid (And.intro (X2.out.1.next R9.out) (X2.out.2.next R9.out))
            clear R9
            obtain ⟨wd', rfl⟩ : ∃ wd' : World, wd' = W9 := ⟨_, rfl⟩
            go_upto_region 16 with fail
            refine Sh.region_gen fun a0 ha0 => ?_
            have G7 : a0.tmps[7]? = some (.pointer (some ⟨b5, 0, none⟩)) := by rw [ha0]; rfl
            have G8 : a0.tmps[8]? = some (.pointer (some ⟨b5 + 1, 0, none⟩)) := by rw [ha0]; rfl
            have G9 : a0.tmps[9]? = some (.slice (some ⟨b, off, none⟩) vn vc) := by rw [ha0]; rfl
            have G11 : a0.tmps[11]? = some (.int .i64 (q : Int)) := by rw [ha0]; rfl
            have TZ : a0.tmps.size = 165 := by rw [ha0]; rfl
            have HA := Lib.hid ha0
            clear ha0
            refine region_planK (by kernel_rfl) (by kernel_rfl) (by rw [TZ]; kernel_rfl) (fun (x : Unit) (i : Nat) => (match i with | 0 => (.agg #[.slice z.s.w.a z.s.w.n z.s.w.c, .slice z.s.p.a z.s.p.n z.s.p.c, .slice (z.s.u 0).a (z.s.u 0).n (z.s.u 0).c, .slice (z.s.u 1).a (z.s.u 1).n (z.s.u 1).c, .slice (z.s.u 2).a (z.s.u 2).n (z.s.u 2).c, .slice z.s.c.a z.s.c.n z.s.c.c]) | 1 => (.agg #[.int .i64 z.k.ph, .int .i64 z.k.ep, .bool z.k.mj, .slice z.k.wk.a z.k.wk.n z.k.wk.c, .bool z.k.ov, .int .i64 z.k.pa, .int .i64 z.k.pf, .int .i64 z.k.ps, .int .i64 z.k.pc, .bool z.k.me]) | 2 => .slice (some ⟨b, off, none⟩) vn vc | 3 => .int .i64 (q : Int) | 4 => .pointer (some ⟨b, off + q, none⟩) | 5 => .int .i64 y | 6 => .int .i64 cn | 7 => .int .i64 cn | _ => undef : Value)) (fun _ => false) ?zeroD (fun _ _ W => Below wd'.heap.size wd' W) () ?startD ?wantD ?skipD ?stepD ?doneD
            case zeroD => exact fun _ _ h => by cases h
            case startD => exact ⟨rfl, rfl, rfl, Nat.le_refl _, fun _ _ => rfl⟩
            case skipD => exact fun i l x W h _ => by cases h
            case wantD =>
              rintro i o9 l a9 x ho hP haft
              have hi : i < 8 := (Array.getElem?_eq_some_iff.1 ho).1
              rcases (show i = 0 ∨ i = 1 ∨ i = 2 ∨ i = 3 ∨ i = 4 ∨ i = 5 ∨ i = 6 ∨ i = 7 by omega) with rfl | rfl | rfl | rfl | rfl | rfl | rfl | rfl
              · obtain rfl := Option.some.inj ho
                rfl
              · obtain rfl := Option.some.inj ho
                rfl
              · obtain rfl := Option.some.inj ho
                rfl
              · obtain rfl := Option.some.inj ho
                rfl
              · obtain rfl := Option.some.inj ho
                rfl
              · obtain rfl := Option.some.inj ho
                rfl
              · obtain rfl := Option.some.inj ho
                rfl
              · obtain rfl := Option.some.inj ho
                rfl
            case stepD =>
              rintro i o9 l a9 x W9 ho hP hkp hcd hI hl hsk haft K hK
              have hi : i < 8 := (Array.getElem?_eq_some_iff.1 ho).1
              rcases (show i = 0 ∨ i = 1 ∨ i = 2 ∨ i = 3 ∨ i = 4 ∨ i = 5 ∨ i = 6 ∨ i = 7 by omega) with rfl | rfl | rfl | rfl | rfl | rfl | rfl | rfl
              · clear hsk
                obtain rfl := Option.some.inj ho
                have q7 := (hP.keep (j := 7) (by kernel_rfl)).trans G7
                exact Mu.p_load rfl (Mu.ev q7) (ldHb (show Box W9 (b5) (hv z.s) from (A8.out.lq.next (KD.out.bel.trans ((hI).mono KD.out.bel.size))).bx _ _ (by simp))) (hK () _ (fun _ _ => rfl) hI)
              · clear hsk
                obtain rfl := Option.some.inj ho
                have q8 := (hP.keep (j := 8) (by kernel_rfl)).trans G8
                exact Mu.p_load rfl (Mu.ev q8) (ldKb (show Box W9 (b5 + 1) (kv z.k) from (A8.out.lq.next (KD.out.bel.trans ((hI).mono KD.out.bel.size))).bx _ _ (by simp))) (hK () _ (fun _ _ => rfl) hI)
              · clear hsk
                obtain rfl := Option.some.inj ho
                have q9 := (hP.keep (j := 9) (by kernel_rfl)).trans G9
                go_simp
                exact hK () _ (fun _ _ => rfl) hI
              · clear hsk
                obtain rfl := Option.some.inj ho
                have q11 := (hP.keep (j := 11) (by kernel_rfl)).trans G11
                go_simp
                exact hK () _ (fun _ _ => rfl) hI
              · clear hsk
                obtain rfl := Option.some.inj ho
                have e2 := hP.got 2 _ 84 rfl (haft ⟨2, .data⟩ (by simp) rfl) rfl
                have e3 := hP.got 3 _ 85 rfl (haft ⟨3, .data⟩ (by simp) rfl) rfl
                try dsimp only at e2 e3
                go_simp
                exact hK () _ (fun _ _ => rfl) hI
              · clear hsk
                obtain rfl := Option.some.inj ho
                have e4 := hP.got 4 _ 86 rfl (haft ⟨4, .data⟩ (by simp) rfl) rfl
                try dsimp only at e4
                have c9 := (Below.cell (p := ⟨b, off + q, none⟩) (KD.out.bel.trans ((hI).mono KD.out.bel.size)) DN.out).trans DQ.out
                have l9 : b < W9.heap.size := Nat.lt_of_lt_of_le DN.out (KD.out.bel.trans ((hI).mono KD.out.bel.size)).size
                go_simp
                exact hK () _ (fun _ _ => rfl) hI
              · clear hsk
                obtain rfl := Option.some.inj ho
                have e0 := hP.got 0 _ 82 rfl (haft ⟨0, .data⟩ (by simp) rfl) rfl
                have e1 := hP.got 1 _ 83 rfl (haft ⟨1, .data⟩ (by simp) rfl) rfl
                have e5 := hP.got 5 _ 87 rfl (haft ⟨5, .data⟩ (by simp) rfl) rfl
                try dsimp only at e0 e1 e5
                go_simp
                refine (C2.out W9 ((A8.out.lq.next (KD.out.bel.trans ((hI).mono KD.out.bel.size))).at z (by simp))).mono ?_
                rintro e9 w9 ⟨rfl, hb9⟩
                exact hK () _ (fun _ _ => rfl) (hI.trans (hb9.mono hI.size))
              · clear hsk
                obtain rfl := Option.some.inj ho
                have e6 := hP.got 6 _ 88 rfl (haft ⟨6, .data⟩ (by simp) rfl) rfl
                try dsimp only at e6
                go_simp
                exact hK () _ (fun _ _ => rfl) hI
            case doneD =>
              rintro l a9 x W9 hP hI hall
              have R9 := Lib.hid hI
              obtain rfl := pl_full hP (by rw [TZ]; kernel_rfl) hall [some 82, some 83, some 84, some 85, some 86, some 87, some 88, some 17] (by rfl)
              clear hP hI hall TZ G7 G8 G9 G11
              rw [HA.out]
              simp only [putD, Act.put, List.setIfInBounds_toArray, List.set_cons_succ, List.set_cons_zero]
              clear HA
              have KE := Lib.hid (KD.out.next R9.out)
              have X4 := Lib.hid (And.intro (X3.out.1.next R9.out) (X3.out.2.next R9.out))
              clear R9 CX CY C1 C2
              obtain ⟨we, rfl⟩ : ∃ we : World, we = W9 := ⟨_, rfl⟩
              go_upto_region 17 with fail
              go_cut [130] from 57 to 147 (fun v wc' => v = .bool false ∧ wc' = we)
              case first =>
                have u1 := X4.out.1.cel 1 (.bool xo) rfl
                have u3 := X4.out.1.cel 3 (.int .i64 N) rfl
                have u4 := X4.out.1.cel 4 (.int .i64 xb) rfl
                have ul := X4.out.1.lt
                have y1 := X4.out.2.cel 1 (.bool xo) rfl
                have y3 := X4.out.2.cel 3 (.int .i64 N) rfl
                have y4 := X4.out.2.cel 4 (.int .i64 xb) rfl
                have yl := X4.out.2.lt
                obtain ⟨mj, hmj⟩ : ∃ mj, k.mj = mj := ⟨_, rfl⟩
                have k2 := (A8.out.lq.bx (w.heap.size + 1) (kv k) (by simp)).next KE.out.bel |>.cel 2 (.bool mj) (by rw [← hmj]; rfl)
                have kl := ((A8.out.lq.bx (w.heap.size + 1) (kv k) (by simp)).next KE.out.bel).lt
                have f1 : decide (cn < cw) = false := decide_eq_false (by have := EC.out; omega)
                have HMJ := Lib.hid hmj
                cases hxo : xo
                · rw [hxo] at u1 y1
                  go_wp2
                  go_meet
                  exact ⟨rfl, rfl⟩
                · rw [hxo] at u1 y1
                  cases mj
                  · have h0 := EO.out hxo HMJ.out
                    have f2 : (cn != cw) = false := by rw [h0.1, h0.2]; rfl
                    have f3 : decide (cn = cw) = true := by rw [h0.1, h0.2]; rfl
                    have f4 : (cn == cw) = true := f3
                    clear h0 hxo hmj
                    go_wp2
                    go_meet
                    exact ⟨rfl, rfl⟩
                  · clear hxo hmj
                    go_wp2
                    go_meet
                    exact ⟨rfl, rfl⟩
              case rest =>
                obtain ⟨rfl, rfl⟩ := hcut
                clear X1 X2 X3 X4 EO EC
                have hn0 : 0 < t.w.n := by have := LT.out.1; have := A8.out.len.1; have := FI.out; omega
                obtain ⟨i0, hi⟩ : ∃ i0 : Nat, y - 16 = (i0 : Int) := ⟨(y - 16).toNat, by have := FI.out; omega⟩
                have hiw : i0 < s.w.n := by have := FI.out; omega
                have hit : i0 < t.w.n := by have := LT.out.1; have := A8.out.len.1; omega
                obtain ⟨bw, ow, ea, hbw, hcw⟩ := (A8.out.lq.at (⟨s, k, d, xs⟩ : Q2) (by simp)).h.words.2 (by show 0 < s.w.n; omega)
                obtain ⟨v, hv'⟩ : ∃ v, v = wd d y := ⟨_, rfl⟩
                have DW := Lib.hid (hcw i0 hiw)
                rw [show ((⟨s, k, d, xs⟩ : Q2)).d.ws.getD i0 0 = v by rw [hv']; unfold wd; rw [show (y - 16).toNat = i0 by omega]] at DW
                have DL := Lib.hid (show bw < w8.heap.size from hbw)
                obtain ⟨g, hga, _⟩ := KE.out.mine hn0
                have HN0 := Lib.hid hn0
                have HGA := Lib.hid hga
                have EA := Lib.hid ea
                have HV := Lib.hid (And.intro hv' hi)
                have w1 : IntKind.i64.wrap (y - 16) = (i0 : Int) := by rw [hi]; exact IntWalk.i64_in _ (by have := A8.out.fine.wn; omega)
                have hi0 : (i0 : Int) < (s.w.n : Int) := by omega
                have hi1 : (i0 : Int) < (t.w.n : Int) := by omega
                clear hcw hbw hv' hi ea hga
                go_upto_region 19 with fail
                refine Sh.region_gen fun a0 ha0 => ?_
                have G2 : a0.tmps[2]? = some (.pointer (some ⟨w.heap.size, 0, none⟩)) := by rw [ha0]; rfl
                have G9 : a0.tmps[9]? = some (.slice (some ⟨b, off, none⟩) vn vc) := by rw [ha0]; rfl
                have G10 : a0.tmps[10]? = some (.pointer (some ⟨bm, 0, none⟩)) := by rw [ha0]; rfl
                have G11 : a0.tmps[11]? = some (.int .i64 (q : Int)) := by rw [ha0]; rfl
                have TZ : a0.tmps.size = 165 := by rw [ha0]; rfl
                have HA := Lib.hid ha0
                clear ha0
                refine region_planK (by kernel_rfl) (by kernel_rfl) (by rw [TZ]; kernel_rfl) (fun (x : Unit) (i : Nat) => (match i with | 0 => .pointer (some ⟨bm, 0, none⟩) | 1 => .slice (some ⟨g, 0, none⟩) t.w.n t.w.c | 2 => .slice (some ⟨b, off, none⟩) vn vc | 3 => .int .i64 (q : Int) | 4 => .pointer (some ⟨b, off + q, none⟩) | 5 => .int .i64 y | 6 => .int .i64 (i0 : Int) | 7 => .pointer (some ⟨w.heap.size, 0, none⟩) | 8 => .slice (some ⟨bw, ow, none⟩) s.w.n s.w.c | 9 => .slice (some ⟨b, off, none⟩) vn vc | 10 => .int .i64 (q : Int) | 11 => .pointer (some ⟨b, off + q, none⟩) | 12 => .int .i64 y | 13 => .int .i64 (i0 : Int) | 14 => .pointer (some ⟨bw, ow + i0, none⟩) | 15 => .int .i64 v | 16 => .pointer (some ⟨g, i0, none⟩) | 17 => undef | _ => undef : Value)) (fun _ => false) ?zeroE (fun _ l W => Sx w8 bm t z.d (mixW d (G.take q) z.d.ws) i0 v l W) () ?startE ?wantE ?skipE ?stepE ?doneE
                case zeroE => exact fun _ _ h => by cases h
                case startE => exact sx_start (KE.out.next ⟨rfl, rfl, rfl, Nat.le_refl _, fun _ _ => rfl⟩)
                case skipE => exact fun i l x W h _ => by cases h
                case wantE =>
                  rintro i o9 l a9 x ho hP haft
                  have hi : i < 18 := (Array.getElem?_eq_some_iff.1 ho).1
                  rcases (show i = 0 ∨ i = 1 ∨ i = 2 ∨ i = 3 ∨ i = 4 ∨ i = 5 ∨ i = 6 ∨ i = 7 ∨ i = 8 ∨ i = 9 ∨ i = 10 ∨ i = 11 ∨ i = 12 ∨ i = 13 ∨ i = 14 ∨ i = 15 ∨ i = 16 ∨ i = 17 by omega) with rfl | rfl | rfl | rfl | rfl | rfl | rfl | rfl | rfl | rfl | rfl | rfl | rfl | rfl | rfl | rfl | rfl | rfl
                  · obtain rfl := Option.some.inj ho
                    rfl
                  · obtain rfl := Option.some.inj ho
                    rfl
                  · obtain rfl := Option.some.inj ho
                    rfl
                  · obtain rfl := Option.some.inj ho
                    rfl
                  · obtain rfl := Option.some.inj ho
                    rfl
                  · obtain rfl := Option.some.inj ho
                    rfl
                  · obtain rfl := Option.some.inj ho
                    rfl
                  · obtain rfl := Option.some.inj ho
                    rfl
                  · obtain rfl := Option.some.inj ho
                    rfl
                  · obtain rfl := Option.some.inj ho
                    rfl
                  · obtain rfl := Option.some.inj ho
                    rfl
                  · obtain rfl := Option.some.inj ho
                    rfl
                  · obtain rfl := Option.some.inj ho
                    rfl
                  · obtain rfl := Option.some.inj ho
                    rfl
                  · obtain rfl := Option.some.inj ho
                    rfl
                  · obtain rfl := Option.some.inj ho
                    rfl
                  · obtain rfl := Option.some.inj ho
                    rfl
                  · obtain rfl := Option.some.inj ho
                    rfl
                case stepE =>
                  rintro i o9 l a9 x W9 ho hP hkp hcd hI hl hsk haft K hK
                  have hi : i < 18 := (Array.getElem?_eq_some_iff.1 ho).1
                  rcases (show i = 0 ∨ i = 1 ∨ i = 2 ∨ i = 3 ∨ i = 4 ∨ i = 5 ∨ i = 6 ∨ i = 7 ∨ i = 8 ∨ i = 9 ∨ i = 10 ∨ i = 11 ∨ i = 12 ∨ i = 13 ∨ i = 14 ∨ i = 15 ∨ i = 16 ∨ i = 17 by omega) with rfl | rfl | rfl | rfl | rfl | rfl | rfl | rfl | rfl | rfl | rfl | rfl | rfl | rfl | rfl | rfl | rfl | rfl
                  · clear hsk
                    obtain rfl := Option.some.inj ho
                    have q10 := (hP.keep (j := 10) (by kernel_rfl)).trans G10
                    go_simp
                    exact hK () _ (fun _ _ => rfl) (hI.pure (by decide : ¬ 0 = 17))
                  · clear hsk
                    obtain rfl := Option.some.inj ho
                    have e0 := hP.got 0 _ 131 rfl (haft ⟨0, .data⟩ (by simp) rfl) rfl
                    try dsimp only at e0
                    have z0 : W9.cell? ⟨bm, 0, none⟩ = some (.slice (some ⟨g, 0, none⟩) t.w.n t.w.c) := by rw [← HGA.out]; exact (show Box W9 bm (hv t) from hI.st.box).cel 0 _ rfl
                    go_simp
                    exact hK () _ (fun _ _ => rfl) (hI.pure (by decide : ¬ 1 = 17))
                  · clear hsk
                    obtain rfl := Option.some.inj ho
                    have q9 := (hP.keep (j := 9) (by kernel_rfl)).trans G9
                    go_simp
                    exact hK () _ (fun _ _ => rfl) (hI.pure (by decide : ¬ 2 = 17))
                  · clear hsk
                    obtain rfl := Option.some.inj ho
                    have q11 := (hP.keep (j := 11) (by kernel_rfl)).trans G11
                    go_simp
                    exact hK () _ (fun _ _ => rfl) (hI.pure (by decide : ¬ 3 = 17))
                  · clear hsk
                    obtain rfl := Option.some.inj ho
                    have e2 := hP.got 2 _ 133 rfl (haft ⟨2, .data⟩ (by simp) rfl) rfl
                    have e3 := hP.got 3 _ 134 rfl (haft ⟨3, .data⟩ (by simp) rfl) rfl
                    try dsimp only at e2 e3
                    go_simp
                    exact hK () _ (fun _ _ => rfl) (hI.pure (by decide : ¬ 4 = 17))
                  · clear hsk
                    obtain rfl := Option.some.inj ho
                    have e4 := hP.got 4 _ 135 rfl (haft ⟨4, .data⟩ (by simp) rfl) rfl
                    try dsimp only at e4
                    have c9 := (Below.cell (p := ⟨b, off + q, none⟩) (hI.st.bel) DN.out).trans DQ.out
                    have l9 : b < W9.heap.size := Nat.lt_of_lt_of_le DN.out (hI.st.bel).size
                    go_simp
                    exact hK () _ (fun _ _ => rfl) (hI.pure (by decide : ¬ 5 = 17))
                  · clear hsk
                    obtain rfl := Option.some.inj ho
                    have e5 := hP.got 5 _ 136 rfl (haft ⟨5, .data⟩ (by simp) rfl) rfl
                    try dsimp only at e5
                    go_simp
                    exact hK () _ (fun _ _ => rfl) (hI.pure (by decide : ¬ 6 = 17))
                  · clear hsk
                    obtain rfl := Option.some.inj ho
                    have q2 := (hP.keep (j := 2) (by kernel_rfl)).trans G2
                    go_simp
                    exact hK () _ (fun _ _ => rfl) (hI.pure (by decide : ¬ 7 = 17))
                  · clear hsk
                    obtain rfl := Option.some.inj ho
                    have e7 := hP.got 7 _ 138 rfl (haft ⟨7, .data⟩ (by simp) rfl) rfl
                    try dsimp only at e7
                    have z0 : W9.cell? ⟨w.heap.size, 0, none⟩ = some (.slice (some ⟨bw, ow, none⟩) s.w.n s.w.c) := by rw [← EA.out]; exact (show Box W9 w.heap.size (hv s) from (A8.out.lq.next hI.st.bel).bx _ _ (by simp)).cel 0 _ rfl
                    go_simp
                    exact hK () _ (fun _ _ => rfl) (hI.pure (by decide : ¬ 8 = 17))
                  · clear hsk
                    obtain rfl := Option.some.inj ho
                    have q9 := (hP.keep (j := 9) (by kernel_rfl)).trans G9
                    go_simp
                    exact hK () _ (fun _ _ => rfl) (hI.pure (by decide : ¬ 9 = 17))
                  · clear hsk
                    obtain rfl := Option.some.inj ho
                    have q11 := (hP.keep (j := 11) (by kernel_rfl)).trans G11
                    go_simp
                    exact hK () _ (fun _ _ => rfl) (hI.pure (by decide : ¬ 10 = 17))
                  · clear hsk
                    obtain rfl := Option.some.inj ho
                    have e9 := hP.got 9 _ 140 rfl (haft ⟨9, .data⟩ (by simp) rfl) rfl
                    have e10 := hP.got 10 _ 141 rfl (haft ⟨10, .data⟩ (by simp) rfl) rfl
                    try dsimp only at e9 e10
                    go_simp
                    exact hK () _ (fun _ _ => rfl) (hI.pure (by decide : ¬ 11 = 17))
                  · clear hsk
                    obtain rfl := Option.some.inj ho
                    have e11 := hP.got 11 _ 142 rfl (haft ⟨11, .data⟩ (by simp) rfl) rfl
                    try dsimp only at e11
                    have c9 := (Below.cell (p := ⟨b, off + q, none⟩) (hI.st.bel) DN.out).trans DQ.out
                    have l9 : b < W9.heap.size := Nat.lt_of_lt_of_le DN.out (hI.st.bel).size
                    go_simp
                    exact hK () _ (fun _ _ => rfl) (hI.pure (by decide : ¬ 12 = 17))
                  · clear hsk
                    obtain rfl := Option.some.inj ho
                    have e12 := hP.got 12 _ 143 rfl (haft ⟨12, .data⟩ (by simp) rfl) rfl
                    try dsimp only at e12
                    go_simp
                    exact hK () _ (fun _ _ => rfl) (hI.pure (by decide : ¬ 13 = 17))
                  · clear hsk
                    obtain rfl := Option.some.inj ho
                    have e8 := hP.got 8 _ 139 rfl (haft ⟨8, .data⟩ (by simp) rfl) rfl
                    have e13 := hP.got 13 _ 144 rfl (haft ⟨13, .data⟩ (by simp) rfl) rfl
                    try dsimp only at e8 e13
                    go_simp
                    exact hK () _ (fun _ _ => rfl) (hI.pure (by decide : ¬ 14 = 17))
                  · clear hsk
                    obtain rfl := Option.some.inj ho
                    have e14 := hP.got 14 _ 145 rfl (haft ⟨14, .data⟩ (by simp) rfl) rfl
                    try dsimp only at e14
                    have z1 := (Below.cell (p := ⟨bw, ow + i0, none⟩) hI.st.bel DL.out).trans DW.out
                    have z2 : bw < W9.heap.size := Nat.lt_of_lt_of_le DL.out hI.st.bel.size
                    go_simp
                    exact hK () _ (fun _ _ => rfl) (hI.pure (by decide : ¬ 15 = 17))
                  · clear hsk
                    obtain rfl := Option.some.inj ho
                    have e1 := hP.got 1 _ 132 rfl (haft ⟨1, .data⟩ (by simp) rfl) rfl
                    have e6 := hP.got 6 _ 137 rfl (haft ⟨6, .data⟩ (by simp) rfl) rfl
                    try dsimp only at e1 e6
                    go_simp
                    exact hK () _ (fun _ _ => rfl) (hI.pure (by decide : ¬ 16 = 17))
                  · clear hsk
                    obtain rfl := Option.some.inj ho
                    have e15 := hP.got 15 _ 146 rfl (haft ⟨15, .data⟩ (by simp) rfl) rfl
                    have e16 := hP.got 16 _ 147 rfl (haft ⟨16, .data⟩ (by simp) rfl) rfl
                    try dsimp only at e15 e16
                    obtain ⟨g', hg', hm'⟩ := hI.st.mine HN0.out
                    obtain rfl : g' = g := by have := HGA.out.symm.trans hg'; simpa using this.symm
                    have z3 := hm'.cell i0 hit
                    have z4 := hm'.free i0
                    have z5 := hm'.2.2.1
                    go_simp
                    exact hK () _ (fun _ _ => rfl) (hI.put hl hg' hm')
                case doneE =>
                  rintro l a9 x W9 hP hI hall
                  have R9 := Lib.hid (hI.done (hall 17 (by decide)))
                  obtain rfl := pl_full hP (by rw [TZ]; kernel_rfl) hall [some 131, some 132, some 133, some 134, some 135, some 136, some 137, some 138, some 139, some 140, some 141, some 142, some 143, some 144, some 145, some 146, some 147, none] (by rfl)
                  clear hP hI hall TZ G2 G9 G10 G11
                  rw [HA.out]
                  simp only [putD, Act.put, List.setIfInBounds_toArray, List.set_cons_succ, List.set_cons_zero]
                  clear HA
                  have HE : Hid (Kp w8 W9 bm t z.d (mixW d (G.take (q + 1)) z.d.ws)) := Lib.hid (by
                    rw [mix_next HQ.out, ← HY.out, ← HV.out.1, show (y - 16).toNat = i0 by have := HV.out.2; omega]
                    exact R9.out)
                  go_wp2
                  go_roundg (gk - 1)
                  case rel => exact ⟨q + 1, by have := HJ.out; omega, by go_num, HE⟩
                  case measure => have := HJ.out; omega
    · obtain rfl : q = vn := by omega
      have d0 : decide ((q : Int) < q) = false := by simp
      have HM := Lib.hid (mix_all A8.out.kept A8.out.wl)
      have HP9 : Hid (Hp wo wo.heap.size t d) := Lib.hid (by
        have h := K0.out.hp
        rw [List.take_of_length_le (by have := HG.out; omega), HGE.out, HM.out] at h
        exact h)
      have LL := Lib.hid (lens_trans' A8.out.len LT.out)
      have LA := Lib.hid (A8.out.lq.next K0.out.bel)
      have CA := Lib.hid (fun W (h1 : Hold W (⟨s, k, d, xs⟩ : Q2)) (h2 : Hp W W.heap.size t d) => Sh.hsame_yes t s d W LL.out h1.h h2 A8.out.fine)
      have e1 : (k.ep == k.ep) = true := by simp
      have e2 : (k.mj == k.mj) = true := by simp
      go_wp2_with (first
        | (refine w_load (ldHb K0.out.box) rfl rfl rfl rfl ?_)
        | (refine w_load (ldHb (LA.out.bx (w.heap.size) (hv s) (by simp))) rfl rfl rfl rfl ?_)
        | ((go_at_call 13); (with_reducible refine (CA.out _ (LA.out.at (⟨s, k, d, xs⟩ : Q2) (by simp)) HP9.out).mono ?_); rintro e9 wz ⟨rfl, hb9⟩; have LZ := Lib.hid (LA.out.next hb9); have g1 := (LZ.out.bx (b5 + 1) (kv z.k) (by simp)).cel 1 (.int .i64 k.ep) (by rw [← A8.out.kk.1]; rfl); have g2 := (LZ.out.bx (b5 + 1) (kv z.k) (by simp)).cel 2 (.bool k.mj) (by rw [← A8.out.kk.2]; rfl); have g3 := (LZ.out.bx (w.heap.size + 1) (kv k) (by simp)).cel 1 (.int .i64 k.ep) rfl; have g4 := (LZ.out.bx (w.heap.size + 1) (kv k) (by simp)).cel 2 (.bool k.mj) rfl; clear hb9))
      go_ret
      exact ⟨rfl, LZ.out.bel⟩
theorem walk (s : Hs) (d : Hd_) (k : Sh.Ks) (xs : List Int) (w : World) (hz : Cl.Sz w) (hp : Hp w w.heap.size s d) (hv : Fit64 d.ws) (_ : s.p.n ≤ s.p.c) (hk : Sh.WRow w w.heap.size k xs) (_ : k.wk.n ≤ k.wk.c) (_ : k.wk.c ≤ maxLen) (_ : (Lit.int .i64 k.ep).wf = true) : Calls Tryz.prog 6 #[(.agg #[.slice s.w.a s.w.n s.w.c, .slice s.p.a s.p.n s.p.c, .slice (s.u 0).a (s.u 0).n (s.u 0).c, .slice (s.u 1).a (s.u 1).n (s.u 1).c, .slice (s.u 2).a (s.u 2).n (s.u 2).c, .slice s.c.a s.c.n s.c.c]), (.agg #[.int .i64 k.ph, .int .i64 k.ep, .bool k.mj, .slice k.wk.a k.wk.n k.wk.c, .bool k.ov, .int .i64 k.pa, .int .i64 k.pf, .int .i64 k.ps, .int .i64 k.pc, .bool k.me])] w fun e w' => e = .returned (.bool true) ∧ Below w.heap.size w w' := by
  cases hf : Sh.fewK s k
  · exact walk_few s d k xs w hf hz hp hv hk
  · cases hm : mayB0 s d
    · exact walk_off s d k xs w hf hm hz hp hv hk
    · exact walk_on s d k xs w hf hm hz hp hv hk
-- the frame (hp16frame.py)
set_option maxRecDepth 100000 in
theorem lifted (os : Os) (started : os.Started) (H : Type) (enc : TypeId × Value → H) :
    ReturnsInHanded {} Tryz.checked os 6 .any (fun w args => (Rows.traceKeepsSpec.pre enc Tryz.prog Tryz.f6 [] false w args ∧ laidMetH Tryz.prog laidSizes w) ∧ sizedMet enc Tryz.prog Tryz.f6 (OpenSpec.ofChange Rows.traceKeepsSpec) false w args)
      (Rows.traceKeepsSpec.post enc Tryz.prog Tryz.f6 false true false false) := by
  refine returnsInHanded_of_change_and (C := Tryz.checked) (X := fun w _ => laidMetH Tryz.prog laidSizes w) (fun _ _ _ hh h => h.of_heap hh) own started (by kernel_rfl) Tryz.func6
    (ChangeSpec.witness_shaped (enc := enc) (C := Tryz.checked) (os := os) (X := fun w _ => laidMetH Tryz.prog laidSizes w) false (World.doorLaid Tryz.prog 400 os) #[.agg #[.slice none 0 0, .slice none 0 0, .slice none 0 0, .slice none 0 0, .slice none 0 0, .slice none 0 0], .agg #[.int .i64 0, .int .i64 0, .bool false, .slice none 0 0, .bool false, .int .i64 0, .int .i64 0, .int .i64 0, .int .i64 0, .bool false]] 8 rfl (World.shaped_of_RefB (by kernel_rfl) (by kernel_rfl)) (by kernel_rfl) (by kernel_rfl) (by kernel_rfl) (door_met os _)) ?_
  intro W base args ds gs before hval0 hW _ _ hL _
  have hval : ∀ (j : Nat) t v, Tryz.f6.params[j]? = some t → args[j]? = some v → Value.okWide Tryz.prog W .any base t v := hval0
  have hW' := hW
  obtain ⟨p, q, hA0, hV, rfl, hfz, hnd⟩ := hW
  have hA : DataW.TrodAll enc Tryz.prog W 0 (fun _ => true) true Tryz.f6.params.toList args.toList ds p := hA0
  rw [Tryz.params6] at hA hval
  obtain ⟨v0, vs0, d0, ds0, p0, q0, hargs, rfl, rfl, h0, r0⟩ := trodAll_cons hA
  obtain ⟨v1, vs1, d1, ds1, p1, q1, rfl, rfl, rfl, h1, r1⟩ := trodAll_cons r0
  obtain ⟨rfl, rfl, rfl⟩ := trodAll_nil r1
  obtain rfl : args = #[v0, v1] := by cases args; simp_all
  obtain ⟨rfl, rfl⟩ := trodVars_none hV
  have k0 := h0
  have lt0 : ∀ x ∈ p0, x.block < W.heap.size := by obtain ⟨m, hm⟩ := k0; exact DataW.trod_lt m _ _ _ hm
  obtain ⟨s0, z0, rfl, w0, f0, b0⟩ := heap_of8 (hval 0 28 v0 rfl rfl) h0
  have k1 := h1
  have lt1 : ∀ x ∈ p1, x.block < W.heap.size := by obtain ⟨m, hm⟩ := k1; exact DataW.trod_lt m _ _ _ hm
  obtain ⟨k1', z1, rfl, w1, m1, x1, f1⟩ := Sh.col_of (hval 1 30 v1 rfl rfl) h1
  clear hA0 hval0
  refine (walk s0 z0 k1' z1 W (of_laid hL) w0 f0 b0 w1 m1 x1 f1).mono fun e W' ⟨he, bel⟩ => ?_
  subst he
  exact ⟨_, rfl, _, _, _, [], _, [], hW', trodAll_mk1 (shut_bool Tryz.underlying4 _), (trodAll_cons_mk (Below.trod laidOut (by kernel_rfl) (of_decide_eq_true (by kernel_rfl)) k0 bel lt0) (trodAll_cons_mk (Below.trod laidOut (by kernel_rfl) (of_decide_eq_true (by kernel_rfl)) k1 bel lt1) trodAll_mk0)), rfl, bel.frame _, fun h => by cases h⟩

theorem over : Rows.TraceKeepsSaid :=
  OpenClaim.holds_of_wide 6 Tryz.f6 rfl rfl rfl rfl rfl rfl rfl ⟨rfl, rfl, rfl, rfl, rfl⟩ rfl rfl rfl rfl rfl (by kernel_rfl) Tryz.func6 (by kernel_rfl)
    (of_decide_eq_true (by kernel_rfl)) (by unfold Func.isWrapper; first | (rw [if_pos (by decide +kernel)]; kernel_rfl) | (rw [if_neg (by decide +kernel)]; exact ⟨rfl, rfl⟩))
    (fun os started H enc _ => lifted os started H enc)

/-- The statement: the card. -/
theorem proved : Rows.TraceKeepsCardSaid :=
  Claim7.holds_tied_plain_at .later [] [.data] true Rows.traceKeepsCard.stood.harness false
    over (fun _ h => by cases h) (by kernel_rfl) (fun _ h => by cases h) traceKeeps_row_tie rfl ⟨rfl, rfl⟩ (by kernel_rfl) rfl
    (fun f fn hf hfn => by
      obtain rfl : f = 6 := Option.some.inj ((show Tryz.prog.funcNamed "ragpicker/ragpickerlaw16.TraceKeeps" = some 6 by kernel_rfl).symm.trans hf) |>.symm
      obtain rfl : fn = Tryz.f6 := (Option.some.inj (Tryz.func6.symm.trans hfn)).symm
      exact ⟨by kernel_rfl, fun j t ht => by
        rw [Tryz.params6] at ht
        have hm : t ∈ [28, 30] := by simpa using Array.mem_of_getElem? ht
        have hall : ([28, 30].all fun u => !Tryz.prog.wantsStandIn u) = true := by kernel_rfl
        exact (show Tryz.prog.wantsStandIn t = false by simpa using List.all_eq_true.1 hall t hm)⟩)
    (by kernel_rfl)
#print axioms proved
end Go.Proofs.YtccjelpfmkbmiaaGreatDoor.TraceKeeps
