/-
  MutateReads: Load, Drop, Same and Size change no word, no page, no card and no free cell, and take one step: for every heap of at most 9 pages and 130 words, every work list of at most 100, every thread of at most 220 operations; the table of sizes is tied to the program's text by the card.
-/
import Derived.Test.YtfjhhfncapmnmaaGreatDoorRMuAwake
import Derived.Test.YtfjhhfncapmnmaaGreatDoorHpRK
import Derived.Deep.Cut
import Derived.Deep.CutRange
import Derived.Deep.QuietTactic
import Derived.BigQuiet
namespace Go.Proofs.YtfjhhfncapmnmaaGreatDoor.MutateReads
open Go.Proofs.YtfjhhfncapmnmaaGreatDoor Go.Proofs.YtfjhhfncapmnmaaGreatDoor.Rt Go.Proofs.YtfjhhfncapmnmaaGreatDoor.Mu
open Go.ChangeShapes Go.WideShapes Go.ChangeAt Go.RowKit
set_option maxRecDepth 100000

section
variable (s : Hs) (k : Sh.Ks) (t : Ts) (d : Hd_) (xs : List Int) (F : Nat → List Int) (g : Nat → O4) (w : World)
set_option maxHeartbeats 1000000 in
theorem walk_few (hf : fewA s k t = false) (hz : Cl.Sz w) (hp : Hp w w.heap.size s d) (hk : Sh.WRow w w.heap.size k xs) (ht : Th w w.heap.size t F g) : Calls Tryz.prog 7 #[(.agg #[.slice s.w.a s.w.n s.w.c, .slice s.p.a s.p.n s.p.c, .slice (s.u 0).a (s.u 0).n (s.u 0).c, .slice (s.u 1).a (s.u 1).n (s.u 1).c, .slice (s.u 2).a (s.u 2).n (s.u 2).c, .slice s.c.a s.c.n s.c.c]), (.agg #[.int .i64 k.ph, .int .i64 k.ep, .bool k.mj, .slice k.wk.a k.wk.n k.wk.c, .bool k.ov, .int .i64 k.pa, .int .i64 k.pf, .int .i64 k.ps, .int .i64 k.pc, .bool k.me]), (.agg #[.bool t.lv, .int .i64 (t.r 0), .int .i64 (t.r 1), .int .i64 (t.r 2), .int .i64 (t.r 3), .slice (t.u 0).a (t.u 0).n (t.u 0).c, .slice (t.u 1).a (t.u 1).n (t.u 1).c, .slice (t.u 2).a (t.u 2).n (t.u 2).c, .int .i64 t.ep, .int .i64 t.sg, .int .i64 t.rt, .slice t.o.a t.o.n t.o.c, .int .i64 t.pc, .int .i64 t.x, .int .i64 t.y])] w fun e w' => e = .returned (.bool true) ∧ Below w.heap.size w w' := by
  have HZ := Lib.hid hz
  have HH : Hid (Hold w ⟨begN s k t o0, d, xs, F, g⟩) := Lib.hid ⟨hp, hk, ht⟩
  have CF := Lib.hid (fun W (hL : Hold W ⟨begN s k t o0, d, xs, F, g⟩) => few_any s k t _ W hL)
  rw [hf] at CF
  clear hz hp hk ht hf
  go_enter Tryz.func7, Tryz.ntmps7
  go_upto_region 1 with fail
  obtain ⟨W1, hW1⟩ : ∃ W1, W1 = ((w.alloc (.cells #[.slice s.w.a s.w.n s.w.c, .slice s.p.a s.p.n s.p.c, .slice (s.u 0).a (s.u 0).n (s.u 0).c, .slice (s.u 1).a (s.u 1).n (s.u 1).c, .slice (s.u 2).a (s.u 2).n (s.u 2).c, .slice s.c.a s.c.n s.c.c] 28)).alloc (.cells #[.int .i64 k.ph, .int .i64 k.ep, .bool k.mj, .slice k.wk.a k.wk.n k.wk.c, .bool k.ov, .int .i64 k.pa, .int .i64 k.pf, .int .i64 k.ps, .int .i64 k.pc, .bool k.me] 30)).alloc (.cells #[.bool t.lv, .int .i64 (t.r 0), .int .i64 (t.r 1), .int .i64 (t.r 2), .int .i64 (t.r 3), .slice (t.u 0).a (t.u 0).n (t.u 0).c, .slice (t.u 1).a (t.u 1).n (t.u 1).c, .slice (t.u 2).a (t.u 2).n (t.u 2).c, .int .i64 t.ep, .int .i64 t.sg, .int .i64 t.rt, .slice t.o.a t.o.n t.o.c, .int .i64 t.pc, .int .i64 t.x, .int .i64 t.y] 34) := ⟨_, rfl⟩
  have L1 := Lib.hid (lb_three (s := s) (k := k) (t := t) HH.out hW1)
  rw [← hW1]
  clear hW1
  go_upto_region 3 with (first
    | ((go_at_call 10); (with_reducible refine (Mu.awake_any _ (L1.out.over HZ.out)).mono ?_); rintro e9 w1 ⟨rfl, hb9⟩; have L2 := Lib.hid (L1.out.next hb9); clear hb9)
    | (refine w_load (ldHb (L2.out.bx (w.heap.size) (hv s) (by simp [boxes3]))) rfl rfl rfl rfl ?_)
    | (refine w_load (ldKb (L2.out.bx (w.heap.size + 1) (kv k) (by simp [boxes3]))) rfl rfl rfl rfl ?_)
    | (refine w_load (ldTb (L2.out.bx (w.heap.size + 2) (tv t) (by simp [boxes3]))) rfl rfl rfl rfl ?_)
    | ((go_at_call 11); (with_reducible refine (CF.out _ (L2.out.at _ (by simp))).mono ?_); rintro e9 w2 ⟨rfl, hb9⟩; have L3 := Lib.hid (L2.out.next hb9); clear hb9))
  go_wp2
  go_ret
  exact ⟨rfl, L3.out.bel⟩
set_option maxHeartbeats 1000000 in
theorem walk_none (hf : fewA s k t = true) (hn : t.o.n = 0) (hz : Cl.Sz w) (hp : Hp w w.heap.size s d) (hk : Sh.WRow w w.heap.size k xs) (ht : Th w w.heap.size t F g) : Calls Tryz.prog 7 #[(.agg #[.slice s.w.a s.w.n s.w.c, .slice s.p.a s.p.n s.p.c, .slice (s.u 0).a (s.u 0).n (s.u 0).c, .slice (s.u 1).a (s.u 1).n (s.u 1).c, .slice (s.u 2).a (s.u 2).n (s.u 2).c, .slice s.c.a s.c.n s.c.c]), (.agg #[.int .i64 k.ph, .int .i64 k.ep, .bool k.mj, .slice k.wk.a k.wk.n k.wk.c, .bool k.ov, .int .i64 k.pa, .int .i64 k.pf, .int .i64 k.ps, .int .i64 k.pc, .bool k.me]), (.agg #[.bool t.lv, .int .i64 (t.r 0), .int .i64 (t.r 1), .int .i64 (t.r 2), .int .i64 (t.r 3), .slice (t.u 0).a (t.u 0).n (t.u 0).c, .slice (t.u 1).a (t.u 1).n (t.u 1).c, .slice (t.u 2).a (t.u 2).n (t.u 2).c, .int .i64 t.ep, .int .i64 t.sg, .int .i64 t.rt, .slice t.o.a t.o.n t.o.c, .int .i64 t.pc, .int .i64 t.x, .int .i64 t.y])] w fun e w' => e = .returned (.bool true) ∧ Below w.heap.size w w' := by
  have HZ := Lib.hid hz
  have HH : Hid (Hold w ⟨begN s k t o0, d, xs, F, g⟩) := Lib.hid ⟨hp, hk, ht⟩
  have CF := Lib.hid (fun W (hL : Hold W ⟨begN s k t o0, d, xs, F, g⟩) => few_any s k t _ W hL)
  rw [hf] at CF
  have g1 : decide ((t.o.n : Int) = 0) = true := decide_eq_true (by omega)
  have g2 : ((t.o.n : Int) == 0) = true := g1
  clear hz hp hk ht hf hn
  go_enter Tryz.func7, Tryz.ntmps7
  go_upto_region 1 with fail
  obtain ⟨W1, hW1⟩ : ∃ W1, W1 = ((w.alloc (.cells #[.slice s.w.a s.w.n s.w.c, .slice s.p.a s.p.n s.p.c, .slice (s.u 0).a (s.u 0).n (s.u 0).c, .slice (s.u 1).a (s.u 1).n (s.u 1).c, .slice (s.u 2).a (s.u 2).n (s.u 2).c, .slice s.c.a s.c.n s.c.c] 28)).alloc (.cells #[.int .i64 k.ph, .int .i64 k.ep, .bool k.mj, .slice k.wk.a k.wk.n k.wk.c, .bool k.ov, .int .i64 k.pa, .int .i64 k.pf, .int .i64 k.ps, .int .i64 k.pc, .bool k.me] 30)).alloc (.cells #[.bool t.lv, .int .i64 (t.r 0), .int .i64 (t.r 1), .int .i64 (t.r 2), .int .i64 (t.r 3), .slice (t.u 0).a (t.u 0).n (t.u 0).c, .slice (t.u 1).a (t.u 1).n (t.u 1).c, .slice (t.u 2).a (t.u 2).n (t.u 2).c, .int .i64 t.ep, .int .i64 t.sg, .int .i64 t.rt, .slice t.o.a t.o.n t.o.c, .int .i64 t.pc, .int .i64 t.x, .int .i64 t.y] 34) := ⟨_, rfl⟩
  have L1 := Lib.hid (lb_three (s := s) (k := k) (t := t) HH.out hW1)
  rw [← hW1]
  clear hW1
  go_upto_region 3 with (first
    | ((go_at_call 10); (with_reducible refine (Mu.awake_any _ (L1.out.over HZ.out)).mono ?_); rintro e9 w1 ⟨rfl, hb9⟩; have L2 := Lib.hid (L1.out.next hb9); clear hb9)
    | (refine w_load (ldHb (L2.out.bx (w.heap.size) (hv s) (by simp [boxes3]))) rfl rfl rfl rfl ?_)
    | (refine w_load (ldKb (L2.out.bx (w.heap.size + 1) (kv k) (by simp [boxes3]))) rfl rfl rfl rfl ?_)
    | (refine w_load (ldTb (L2.out.bx (w.heap.size + 2) (tv t) (by simp [boxes3]))) rfl rfl rfl rfl ?_)
    | ((go_at_call 11); (with_reducible refine (CF.out _ (L2.out.at _ (by simp))).mono ?_); rintro e9 w2 ⟨rfl, hb9⟩; have L3 := Lib.hid (L2.out.next hb9); clear hb9))
  have q11 := (L3.out.bx (w.heap.size + 2) (tv t) (by simp [boxes3])).cel 11 (.slice t.o.a t.o.n t.o.c) rfl
  go_wp2
  go_ret
  exact ⟨rfl, L3.out.bel⟩
set_option maxHeartbeats 2000000 in
theorem walk_other (hf : fewA s k t = true) (hn : 0 < t.o.n) (h1 : ¬ (g 0).k = 1) (h3 : ¬ (g 0).k = 3) (h4 : ¬ (g 0).k = 4) (h5 : ¬ (g 0).k = 5) (hz : Cl.Sz w) (hp : Hp w w.heap.size s d) (hk : Sh.WRow w w.heap.size k xs) (ht : Th w w.heap.size t F g) : Calls Tryz.prog 7 #[(.agg #[.slice s.w.a s.w.n s.w.c, .slice s.p.a s.p.n s.p.c, .slice (s.u 0).a (s.u 0).n (s.u 0).c, .slice (s.u 1).a (s.u 1).n (s.u 1).c, .slice (s.u 2).a (s.u 2).n (s.u 2).c, .slice s.c.a s.c.n s.c.c]), (.agg #[.int .i64 k.ph, .int .i64 k.ep, .bool k.mj, .slice k.wk.a k.wk.n k.wk.c, .bool k.ov, .int .i64 k.pa, .int .i64 k.pf, .int .i64 k.ps, .int .i64 k.pc, .bool k.me]), (.agg #[.bool t.lv, .int .i64 (t.r 0), .int .i64 (t.r 1), .int .i64 (t.r 2), .int .i64 (t.r 3), .slice (t.u 0).a (t.u 0).n (t.u 0).c, .slice (t.u 1).a (t.u 1).n (t.u 1).c, .slice (t.u 2).a (t.u 2).n (t.u 2).c, .int .i64 t.ep, .int .i64 t.sg, .int .i64 t.rt, .slice t.o.a t.o.n t.o.c, .int .i64 t.pc, .int .i64 t.x, .int .i64 t.y])] w fun e w' => e = .returned (.bool true) ∧ Below w.heap.size w w' := by
  have HZ := Lib.hid hz
  have HH : Hid (Hold w ⟨begN s k t o0, d, xs, F, g⟩) := Lib.hid ⟨hp, hk, ht⟩
  have CF := Lib.hid (fun W (hL : Hold W ⟨begN s k t o0, d, xs, F, g⟩) => few_any s k t _ W hL)
  rw [hf] at CF
  obtain ⟨ob, off, ea, hob, hoc⟩ := ht.o hn
  have hc0 := hoc 0 hn
  rw [Nat.zero_mul, Nat.add_zero] at hc0
  have HO : Hid (t.o.a = some ⟨ob, off, none⟩ ∧ ob < w.heap.size ∧ w.cell? ⟨ob, off, none⟩ = some (.int .i64 (g 0).k)) := Lib.hid ⟨ea, hob, hc0.1⟩
  have HQ := Lib.hid hc0.2
  have g1 : decide ((t.o.n : Int) = 0) = false := decide_eq_false (by omega)
  have g2 : ((t.o.n : Int) == 0) = false := g1
  have g3 : (0 : Int) < (t.o.n : Int) := by omega
  have e1 : ((g 0).k != 1) = true := by simpa using h1
  have e3 : ((g 0).k != 3) = true := by simpa using h3
  have e4 : ((g 0).k != 4) = true := by simpa using h4
  have e5 : ((g 0).k != 5) = true := by simpa using h5
  clear hz hp hk ht hf hn ea hob hoc hc0 h1 h3 h4 h5
  go_enter Tryz.func7, Tryz.ntmps7
  go_upto_region 1 with fail
  obtain ⟨W1, hW1⟩ : ∃ W1, W1 = ((w.alloc (.cells #[.slice s.w.a s.w.n s.w.c, .slice s.p.a s.p.n s.p.c, .slice (s.u 0).a (s.u 0).n (s.u 0).c, .slice (s.u 1).a (s.u 1).n (s.u 1).c, .slice (s.u 2).a (s.u 2).n (s.u 2).c, .slice s.c.a s.c.n s.c.c] 28)).alloc (.cells #[.int .i64 k.ph, .int .i64 k.ep, .bool k.mj, .slice k.wk.a k.wk.n k.wk.c, .bool k.ov, .int .i64 k.pa, .int .i64 k.pf, .int .i64 k.ps, .int .i64 k.pc, .bool k.me] 30)).alloc (.cells #[.bool t.lv, .int .i64 (t.r 0), .int .i64 (t.r 1), .int .i64 (t.r 2), .int .i64 (t.r 3), .slice (t.u 0).a (t.u 0).n (t.u 0).c, .slice (t.u 1).a (t.u 1).n (t.u 1).c, .slice (t.u 2).a (t.u 2).n (t.u 2).c, .int .i64 t.ep, .int .i64 t.sg, .int .i64 t.rt, .slice t.o.a t.o.n t.o.c, .int .i64 t.pc, .int .i64 t.x, .int .i64 t.y] 34) := ⟨_, rfl⟩
  have L1 := Lib.hid (lb_three (s := s) (k := k) (t := t) HH.out hW1)
  rw [← hW1]
  clear hW1
  go_upto_region 3 with (first
    | ((go_at_call 10); (with_reducible refine (Mu.awake_any _ (L1.out.over HZ.out)).mono ?_); rintro e9 w1 ⟨rfl, hb9⟩; have L2 := Lib.hid (L1.out.next hb9); clear hb9)
    | (refine w_load (ldHb (L2.out.bx (w.heap.size) (hv s) (by simp [boxes3]))) rfl rfl rfl rfl ?_)
    | (refine w_load (ldKb (L2.out.bx (w.heap.size + 1) (kv k) (by simp [boxes3]))) rfl rfl rfl rfl ?_)
    | (refine w_load (ldTb (L2.out.bx (w.heap.size + 2) (tv t) (by simp [boxes3]))) rfl rfl rfl rfl ?_)
    | ((go_at_call 11); (with_reducible refine (CF.out _ (L2.out.at _ (by simp))).mono ?_); rintro e9 w2 ⟨rfl, hb9⟩; have L3 := Lib.hid (L2.out.next hb9); clear hb9))
  have q11 := (L3.out.bx (w.heap.size + 2) (tv t) (by simp [boxes3])).cel 11 (.slice (some ⟨ob, off, none⟩) t.o.n t.o.c) (by rw [← HO.out.1]; rfl)
  have qo := (L3.out.bel.cell (p := ⟨ob, off, none⟩) HO.out.2.1).trans HO.out.2.2
  go_wp2
  go_ret
  exact ⟨rfl, L3.out.bel⟩
set_option maxHeartbeats 4000000 in
theorem walk_not (hf : fewA s k t = true) (hn : 0 < t.o.n) (hT : takenB s d t F = false) (hk4 : (g 0).k = 1 ∨ (g 0).k = 3 ∨ (g 0).k = 4 ∨ (g 0).k = 5) (hv : Fit64 d.ws) (hz : Cl.Sz w) (hp : Hp w w.heap.size s d) (hk : Sh.WRow w w.heap.size k xs) (ht : Th w w.heap.size t F g) : Calls Tryz.prog 7 #[(.agg #[.slice s.w.a s.w.n s.w.c, .slice s.p.a s.p.n s.p.c, .slice (s.u 0).a (s.u 0).n (s.u 0).c, .slice (s.u 1).a (s.u 1).n (s.u 1).c, .slice (s.u 2).a (s.u 2).n (s.u 2).c, .slice s.c.a s.c.n s.c.c]), (.agg #[.int .i64 k.ph, .int .i64 k.ep, .bool k.mj, .slice k.wk.a k.wk.n k.wk.c, .bool k.ov, .int .i64 k.pa, .int .i64 k.pf, .int .i64 k.ps, .int .i64 k.pc, .bool k.me]), (.agg #[.bool t.lv, .int .i64 (t.r 0), .int .i64 (t.r 1), .int .i64 (t.r 2), .int .i64 (t.r 3), .slice (t.u 0).a (t.u 0).n (t.u 0).c, .slice (t.u 1).a (t.u 1).n (t.u 1).c, .slice (t.u 2).a (t.u 2).n (t.u 2).c, .int .i64 t.ep, .int .i64 t.sg, .int .i64 t.rt, .slice t.o.a t.o.n t.o.c, .int .i64 t.pc, .int .i64 t.x, .int .i64 t.y])] w fun e w' => e = .returned (.bool true) ∧ Below w.heap.size w w' := by
  have HZ := Lib.hid hz
  have HH : Hid (Hold w ⟨begN s k t o0, d, xs, F, g⟩) := Lib.hid ⟨hp, hk, ht⟩
  have CF := Lib.hid (fun W (hL : Hold W ⟨begN s k t o0, d, xs, F, g⟩) => few_any s k t _ W hL)
  rw [hf] at CF
  obtain ⟨ob, off, ea, hob, hoc⟩ := ht.o hn
  have hc0 := hoc 0 hn
  rw [Nat.zero_mul, Nat.add_zero] at hc0
  have HO : Hid (t.o.a = some ⟨ob, off, none⟩ ∧ ob < w.heap.size ∧ w.cell? ⟨ob, off, none⟩ = some (.int .i64 (g 0).k)) := Lib.hid ⟨ea, hob, hc0.1⟩
  have HQ := Lib.hid hc0.2
  have g1 : decide ((t.o.n : Int) = 0) = false := decide_eq_false (by omega)
  have g2 : ((t.o.n : Int) == 0) = false := g1
  have g3 : (0 : Int) < (t.o.n : Int) := by omega
  have HK := Lib.hid hk4
  have hfi := few_in hf hz hp hv hk ht (g := g)
  have CS := Lib.hid (fun W (hL : Hold W ⟨begN s k t o0, d, xs, F, g⟩) (hb : Below w.heap.size w W) => (fun hI => no_out s k t d xs F g W hI hT) (hfi.2 W _ hL hb))
  have HF := Lib.hid (And.intro hfi.1.fine (And.intro (show xs.length ≤ 1000000 by have := hk.1; have := (fewA_len hf).1; omega) (And.intro (fewA_len hf).2.1 ht.c.len)))
  have HN := Lib.hid hn
  clear hz hp hk ht hf hn ea hob hoc hc0 hT hfi hk4 hv
  go_enter Tryz.func7, Tryz.ntmps7
  go_upto_region 1 with fail
  obtain ⟨W1, hW1⟩ : ∃ W1, W1 = ((w.alloc (.cells #[.slice s.w.a s.w.n s.w.c, .slice s.p.a s.p.n s.p.c, .slice (s.u 0).a (s.u 0).n (s.u 0).c, .slice (s.u 1).a (s.u 1).n (s.u 1).c, .slice (s.u 2).a (s.u 2).n (s.u 2).c, .slice s.c.a s.c.n s.c.c] 28)).alloc (.cells #[.int .i64 k.ph, .int .i64 k.ep, .bool k.mj, .slice k.wk.a k.wk.n k.wk.c, .bool k.ov, .int .i64 k.pa, .int .i64 k.pf, .int .i64 k.ps, .int .i64 k.pc, .bool k.me] 30)).alloc (.cells #[.bool t.lv, .int .i64 (t.r 0), .int .i64 (t.r 1), .int .i64 (t.r 2), .int .i64 (t.r 3), .slice (t.u 0).a (t.u 0).n (t.u 0).c, .slice (t.u 1).a (t.u 1).n (t.u 1).c, .slice (t.u 2).a (t.u 2).n (t.u 2).c, .int .i64 t.ep, .int .i64 t.sg, .int .i64 t.rt, .slice t.o.a t.o.n t.o.c, .int .i64 t.pc, .int .i64 t.x, .int .i64 t.y] 34) := ⟨_, rfl⟩
  have L1 := Lib.hid (lb_three (s := s) (k := k) (t := t) HH.out hW1)
  rw [← hW1]
  clear hW1
  go_upto_region 3 with (first
    | ((go_at_call 10); (with_reducible refine (Mu.awake_any _ (L1.out.over HZ.out)).mono ?_); rintro e9 w1 ⟨rfl, hb9⟩; have L2 := Lib.hid (L1.out.next hb9); clear hb9)
    | (refine w_load (ldHb (L2.out.bx (w.heap.size) (hv s) (by simp [boxes3]))) rfl rfl rfl rfl ?_)
    | (refine w_load (ldKb (L2.out.bx (w.heap.size + 1) (kv k) (by simp [boxes3]))) rfl rfl rfl rfl ?_)
    | (refine w_load (ldTb (L2.out.bx (w.heap.size + 2) (tv t) (by simp [boxes3]))) rfl rfl rfl rfl ?_)
    | ((go_at_call 11); (with_reducible refine (CF.out _ (L2.out.at _ (by simp))).mono ?_); rintro e9 w2 ⟨rfl, hb9⟩; have L3 := Lib.hid (L2.out.next hb9); clear hb9))
  have q11 := (L3.out.bx (w.heap.size + 2) (tv t) (by simp [boxes3])).cel 11 (.slice (some ⟨ob, off, none⟩) t.o.n t.o.c) (by rw [← HO.out.1]; rfl)
  have qo := (L3.out.bel.cell (p := ⟨ob, off, none⟩) HO.out.2.1).trans HO.out.2.2
  go_cut [62] from 19 to 62 (fun v wc => v = .bool false ∧ w2 = wc)
  case first =>
    rcases HK.out with e | e | e | e <;> rw [e] at qo
    all_goals
      go_wp2_with fail
      go_meet
      exact ⟨rfl, rfl⟩
  case rest =>
    obtain ⟨rfl, rfl⟩ := hcut
    clear q11 qo
    go_upto_region 6 with (first
      | (refine w_load (ldHb (L3.out.bx (w.heap.size) (hv s) (by simp [boxes3]))) rfl rfl rfl rfl ?_)
      | (refine w_load (ldKb (L3.out.bx (w.heap.size + 1) (kv k) (by simp [boxes3]))) rfl rfl rfl rfl ?_)
      | (refine w_load (ldTb (L3.out.bx (w.heap.size + 2) (tv t) (by simp [boxes3]))) rfl rfl rfl rfl ?_)
      | ((go_at_call 13); (with_reducible refine (CS.out _ (L3.out.at _ (by simp)) L3.out.bel).mono ?_); rintro e9 w3 ⟨n, rfl, hh, hl, hkk, hq, hb9⟩; have L4 := Lib.hid ((L3.out.next hb9).held hh); have E4 := Lib.hid (And.intro hl (And.intro hkk hq)); clear hh hb9 hl hkk hq L3))
    obtain ⟨W4, hW4⟩ : ∃ W4, W4 = (((w3.alloc (.cells #[.slice n.s.w.a n.s.w.n n.s.w.c, .slice n.s.p.a n.s.p.n n.s.p.c, .slice (n.s.u 0).a (n.s.u 0).n (n.s.u 0).c, .slice (n.s.u 1).a (n.s.u 1).n (n.s.u 1).c, .slice (n.s.u 2).a (n.s.u 2).n (n.s.u 2).c, .slice n.s.c.a n.s.c.n n.s.c.c] 28)).alloc (.cells #[.int .i64 n.k.ph, .int .i64 n.k.ep, .bool n.k.mj, .slice n.k.wk.a n.k.wk.n n.k.wk.c, .bool n.k.ov, .int .i64 n.k.pa, .int .i64 n.k.pf, .int .i64 n.k.ps, .int .i64 n.k.pc, .bool n.k.me] 30)).alloc (.cells #[.bool n.t.lv, .int .i64 (n.t.r 0), .int .i64 (n.t.r 1), .int .i64 (n.t.r 2), .int .i64 (n.t.r 3), .slice (n.t.u 0).a (n.t.u 0).n (n.t.u 0).c, .slice (n.t.u 1).a (n.t.u 1).n (n.t.u 1).c, .slice (n.t.u 2).a (n.t.u 2).n (n.t.u 2).c, .int .i64 n.t.ep, .int .i64 n.t.sg, .int .i64 n.t.rt, .slice n.t.o.a n.t.o.n n.t.o.c, .int .i64 n.t.pc, .int .i64 n.t.x, .int .i64 n.t.y] 34)).alloc (.cells #[.int .i64 0, .int .i64 n.q.k, .int .i64 n.q.a, .int .i64 n.q.b, .int .i64 n.q.c, .int .i64 n.e, .int .i64 n.v] 42) := ⟨_, rfl⟩
    have L5 : Hid (Lb w W4 ((w3.heap.size + 1 + 1 + 1, qv n.q n.e n.v) :: (w3.heap.size + 1 + 1, tv n.t) :: (w3.heap.size + 1, kv n.k) :: (w3.heap.size, hv n.s) :: boxes3 w.heap.size s k t) [⟨n, d, xs, F, g⟩, ⟨begN s k t o0, d, xs, F, g⟩]) := Lib.hid (by
      have l := ((((L4.out.lay (hv n.s) 28).lay (kv n.k) 30).lay (tv n.t) 34).lay (qv n.q n.e n.v) 42)
      rw [World.size_alloc, World.size_alloc, World.size_alloc] at l
      rw [hW4]
      exact l)
    rw [← hW4]
    clear hW4 L4
    have C7 := Lib.hid (fun W (hL : Lb w W ((w3.heap.size + 1 + 1 + 1, qv n.q n.e n.v) :: (w3.heap.size + 1 + 1, tv n.t) :: (w3.heap.size + 1, kv n.k) :: (w3.heap.size, hv n.s) :: boxes3 w.heap.size s k t) [⟨n, d, xs, F, g⟩, ⟨begN s k t o0, d, xs, F, g⟩]) => Sh.hsame_yes n.s s d W E4.out.1 (hL.at ⟨begN s k t o0, d, xs, F, g⟩ (by simp)).h (hL.at ⟨n, d, xs, F, g⟩ (by simp)).h HF.out.1)
    have C8 := Lib.hid (fun W (hL : Lb w W ((w3.heap.size + 1 + 1 + 1, qv n.q n.e n.v) :: (w3.heap.size + 1 + 1, tv n.t) :: (w3.heap.size + 1, kv n.k) :: (w3.heap.size, hv n.s) :: boxes3 w.heap.size s k t) [⟨n, d, xs, F, g⟩, ⟨begN s k t o0, d, xs, F, g⟩]) => ksame_of (k := k) (k' := n.k) E4.out.2.1 (hL.at ⟨n, d, xs, F, g⟩ (by simp)).c (hL.at ⟨begN s k t o0, d, xs, F, g⟩ (by simp)).c HF.out.2.1)
    go_upto_region 9 with (first
      | (refine w_load (ldHb (L5.out.bx (w3.heap.size) (hv n.s) (by simp [boxes3]))) rfl rfl rfl rfl ?_)
      | (refine w_load (ldHb (L5.out.bx (w.heap.size) (hv s) (by simp [boxes3]))) rfl rfl rfl rfl ?_)
      | ((go_at_call 15); (with_reducible refine (C7.out _ L5.out).mono ?_); rintro e9 w5 ⟨rfl, hb9⟩; have L6 := Lib.hid (L5.out.next hb9); clear hb9)
      | (refine w_loadg (ldKb (L6.out.bx (w3.heap.size + 1) (kv n.k) (by simp [boxes3]))) rfl (by kernel_rfl) rfl rfl ?_)
      | (refine w_loadg (ldKb (L6.out.bx (w.heap.size + 1) (kv k) (by simp [boxes3]))) rfl (by kernel_rfl) rfl rfl ?_)
      | ((go_at_call 16); (with_reducible refine (C8.out _ L6.out).mono ?_); rintro e9 w6 ⟨rfl, hb9⟩; have L7 := Lib.hid (L6.out.next hb9); clear hb9))
    have C9 := Lib.hid (fun W (hL : Lb w W ((w3.heap.size + 1 + 1 + 1, qv n.q n.e n.v) :: (w3.heap.size + 1 + 1, tv n.t) :: (w3.heap.size + 1, kv n.k) :: (w3.heap.size, hv n.s) :: boxes3 w.heap.size s k t) [⟨n, d, xs, F, g⟩, ⟨begN s k t o0, d, xs, F, g⟩]) => Rt.rsame_yes t n.t t F g W E4.out.2.2.1 rfl E4.out.2.2.2.symm (hL.at ⟨n, d, xs, F, g⟩ (by simp)).t (hL.at ⟨begN s k t o0, d, xs, F, g⟩ (by simp)).t (fun j hj => by have h1 := HF.out.2.2.1.2 j hj; have h2 := HF.out.2.2.2 j hj; omega) (by have h1 := HF.out.2.2.1.1; have h2 := E4.out.2.2.2; omega))
    go_wp2_with (first
      | (refine w_load (ldTb (L7.out.bx (w3.heap.size + 1 + 1) (tv n.t) (by simp [boxes3]))) rfl rfl rfl rfl ?_)
      | (refine w_load (ldTb (L7.out.bx (w.heap.size + 2) (tv t) (by simp [boxes3]))) rfl rfl rfl rfl ?_)
      | ((go_at_call 17); (with_reducible refine (C9.out _ L7.out).mono ?_); rintro e9 w7 ⟨rfl, hb9⟩; have L8 := Lib.hid (L7.out.next hb9); clear hb9))
    go_ret
    exact ⟨rfl, L8.out.bel⟩
set_option maxHeartbeats 4000000 in
theorem walk_yes (hf : fewA s k t = true) (hn : 0 < t.o.n) (hT : takenB s d t F = true) (hk4 : (g 0).k = 1 ∨ (g 0).k = 3 ∨ (g 0).k = 4 ∨ (g 0).k = 5) (hv : Fit64 d.ws) (hz : Cl.Sz w) (hp : Hp w w.heap.size s d) (hk : Sh.WRow w w.heap.size k xs) (ht : Th w w.heap.size t F g) : Calls Tryz.prog 7 #[(.agg #[.slice s.w.a s.w.n s.w.c, .slice s.p.a s.p.n s.p.c, .slice (s.u 0).a (s.u 0).n (s.u 0).c, .slice (s.u 1).a (s.u 1).n (s.u 1).c, .slice (s.u 2).a (s.u 2).n (s.u 2).c, .slice s.c.a s.c.n s.c.c]), (.agg #[.int .i64 k.ph, .int .i64 k.ep, .bool k.mj, .slice k.wk.a k.wk.n k.wk.c, .bool k.ov, .int .i64 k.pa, .int .i64 k.pf, .int .i64 k.ps, .int .i64 k.pc, .bool k.me]), (.agg #[.bool t.lv, .int .i64 (t.r 0), .int .i64 (t.r 1), .int .i64 (t.r 2), .int .i64 (t.r 3), .slice (t.u 0).a (t.u 0).n (t.u 0).c, .slice (t.u 1).a (t.u 1).n (t.u 1).c, .slice (t.u 2).a (t.u 2).n (t.u 2).c, .int .i64 t.ep, .int .i64 t.sg, .int .i64 t.rt, .slice t.o.a t.o.n t.o.c, .int .i64 t.pc, .int .i64 t.x, .int .i64 t.y])] w fun e w' => e = .returned (.bool true) ∧ Below w.heap.size w w' := by
  have HZ := Lib.hid hz
  have HH : Hid (Hold w ⟨begN s k t o0, d, xs, F, g⟩) := Lib.hid ⟨hp, hk, ht⟩
  have CF := Lib.hid (fun W (hL : Hold W ⟨begN s k t o0, d, xs, F, g⟩) => few_any s k t _ W hL)
  rw [hf] at CF
  obtain ⟨ob, off, ea, hob, hoc⟩ := ht.o hn
  have hc0 := hoc 0 hn
  rw [Nat.zero_mul, Nat.add_zero] at hc0
  have HO : Hid (t.o.a = some ⟨ob, off, none⟩ ∧ ob < w.heap.size ∧ w.cell? ⟨ob, off, none⟩ = some (.int .i64 (g 0).k)) := Lib.hid ⟨ea, hob, hc0.1⟩
  have HQ := Lib.hid hc0.2
  have g1 : decide ((t.o.n : Int) = 0) = false := decide_eq_false (by omega)
  have g2 : ((t.o.n : Int) == 0) = false := g1
  have g3 : (0 : Int) < (t.o.n : Int) := by omega
  have HK := Lib.hid hk4
  have hfi := few_in hf hz hp hv hk ht (g := g)
  have CS := Lib.hid (fun W (hL : Hold W ⟨begN s k t o0, d, xs, F, g⟩) (hb : Below w.heap.size w W) => (fun hI => read_out s k t d xs F g W hI hT hk4) (hfi.2 W _ hL hb))
  have HF := Lib.hid (And.intro hfi.1.fine (And.intro (show xs.length ≤ 1000000 by have := hk.1; have := (fewA_len hf).1; omega) (And.intro (fewA_len hf).2.1 ht.c.len)))
  have HN := Lib.hid hn
  have HV := Lib.hid (taken_parts hT).2.2.1
  clear hz hp hk ht hf hn ea hob hoc hc0 hT hfi hk4 hv
  go_enter Tryz.func7, Tryz.ntmps7
  go_upto_region 1 with fail
  obtain ⟨W1, hW1⟩ : ∃ W1, W1 = ((w.alloc (.cells #[.slice s.w.a s.w.n s.w.c, .slice s.p.a s.p.n s.p.c, .slice (s.u 0).a (s.u 0).n (s.u 0).c, .slice (s.u 1).a (s.u 1).n (s.u 1).c, .slice (s.u 2).a (s.u 2).n (s.u 2).c, .slice s.c.a s.c.n s.c.c] 28)).alloc (.cells #[.int .i64 k.ph, .int .i64 k.ep, .bool k.mj, .slice k.wk.a k.wk.n k.wk.c, .bool k.ov, .int .i64 k.pa, .int .i64 k.pf, .int .i64 k.ps, .int .i64 k.pc, .bool k.me] 30)).alloc (.cells #[.bool t.lv, .int .i64 (t.r 0), .int .i64 (t.r 1), .int .i64 (t.r 2), .int .i64 (t.r 3), .slice (t.u 0).a (t.u 0).n (t.u 0).c, .slice (t.u 1).a (t.u 1).n (t.u 1).c, .slice (t.u 2).a (t.u 2).n (t.u 2).c, .int .i64 t.ep, .int .i64 t.sg, .int .i64 t.rt, .slice t.o.a t.o.n t.o.c, .int .i64 t.pc, .int .i64 t.x, .int .i64 t.y] 34) := ⟨_, rfl⟩
  have L1 := Lib.hid (lb_three (s := s) (k := k) (t := t) HH.out hW1)
  rw [← hW1]
  clear hW1
  go_upto_region 3 with (first
    | ((go_at_call 10); (with_reducible refine (Mu.awake_any _ (L1.out.over HZ.out)).mono ?_); rintro e9 w1 ⟨rfl, hb9⟩; have L2 := Lib.hid (L1.out.next hb9); clear hb9)
    | (refine w_load (ldHb (L2.out.bx (w.heap.size) (hv s) (by simp [boxes3]))) rfl rfl rfl rfl ?_)
    | (refine w_load (ldKb (L2.out.bx (w.heap.size + 1) (kv k) (by simp [boxes3]))) rfl rfl rfl rfl ?_)
    | (refine w_load (ldTb (L2.out.bx (w.heap.size + 2) (tv t) (by simp [boxes3]))) rfl rfl rfl rfl ?_)
    | ((go_at_call 11); (with_reducible refine (CF.out _ (L2.out.at _ (by simp))).mono ?_); rintro e9 w2 ⟨rfl, hb9⟩; have L3 := Lib.hid (L2.out.next hb9); clear hb9))
  have q11 := (L3.out.bx (w.heap.size + 2) (tv t) (by simp [boxes3])).cel 11 (.slice (some ⟨ob, off, none⟩) t.o.n t.o.c) (by rw [← HO.out.1]; rfl)
  have qo := (L3.out.bel.cell (p := ⟨ob, off, none⟩) HO.out.2.1).trans HO.out.2.2
  go_cut [62] from 19 to 62 (fun v wc => v = .bool false ∧ w2 = wc)
  case first =>
    rcases HK.out with e | e | e | e <;> rw [e] at qo
    all_goals
      go_wp2_with fail
      go_meet
      exact ⟨rfl, rfl⟩
  case rest =>
    obtain ⟨rfl, rfl⟩ := hcut
    clear q11 qo
    go_upto_region 6 with (first
      | (refine w_load (ldHb (L3.out.bx (w.heap.size) (hv s) (by simp [boxes3]))) rfl rfl rfl rfl ?_)
      | (refine w_load (ldKb (L3.out.bx (w.heap.size + 1) (kv k) (by simp [boxes3]))) rfl rfl rfl rfl ?_)
      | (refine w_load (ldTb (L3.out.bx (w.heap.size + 2) (tv t) (by simp [boxes3]))) rfl rfl rfl rfl ?_)
      | ((go_at_call 13); (with_reducible refine (CS.out _ (L3.out.at _ (by simp)) L3.out.bel).mono ?_); rintro e9 w3 ⟨n, F', g', rfl, hh, hl, hkk, hq, hb9⟩; have L4 := Lib.hid ((L3.out.next hb9).held hh); have E4 := Lib.hid (And.intro hl (And.intro hkk hq)); clear hh hb9 hl hkk hq L3))
    obtain ⟨W4, hW4⟩ : ∃ W4, W4 = (((w3.alloc (.cells #[.slice n.s.w.a n.s.w.n n.s.w.c, .slice n.s.p.a n.s.p.n n.s.p.c, .slice (n.s.u 0).a (n.s.u 0).n (n.s.u 0).c, .slice (n.s.u 1).a (n.s.u 1).n (n.s.u 1).c, .slice (n.s.u 2).a (n.s.u 2).n (n.s.u 2).c, .slice n.s.c.a n.s.c.n n.s.c.c] 28)).alloc (.cells #[.int .i64 n.k.ph, .int .i64 n.k.ep, .bool n.k.mj, .slice n.k.wk.a n.k.wk.n n.k.wk.c, .bool n.k.ov, .int .i64 n.k.pa, .int .i64 n.k.pf, .int .i64 n.k.ps, .int .i64 n.k.pc, .bool n.k.me] 30)).alloc (.cells #[.bool n.t.lv, .int .i64 (n.t.r 0), .int .i64 (n.t.r 1), .int .i64 (n.t.r 2), .int .i64 (n.t.r 3), .slice (n.t.u 0).a (n.t.u 0).n (n.t.u 0).c, .slice (n.t.u 1).a (n.t.u 1).n (n.t.u 1).c, .slice (n.t.u 2).a (n.t.u 2).n (n.t.u 2).c, .int .i64 n.t.ep, .int .i64 n.t.sg, .int .i64 n.t.rt, .slice n.t.o.a n.t.o.n n.t.o.c, .int .i64 n.t.pc, .int .i64 n.t.x, .int .i64 n.t.y] 34)).alloc (.cells #[.int .i64 0, .int .i64 n.q.k, .int .i64 n.q.a, .int .i64 n.q.b, .int .i64 n.q.c, .int .i64 n.e, .int .i64 n.v] 42) := ⟨_, rfl⟩
    have L5 : Hid (Lb w W4 ((w3.heap.size + 1 + 1 + 1, qv n.q n.e n.v) :: (w3.heap.size + 1 + 1, tv n.t) :: (w3.heap.size + 1, kv n.k) :: (w3.heap.size, hv n.s) :: boxes3 w.heap.size s k t) [⟨n, d, xs, F', g'⟩, ⟨begN s k t o0, d, xs, F, g⟩]) := Lib.hid (by
      have l := ((((L4.out.lay (hv n.s) 28).lay (kv n.k) 30).lay (tv n.t) 34).lay (qv n.q n.e n.v) 42)
      rw [World.size_alloc, World.size_alloc, World.size_alloc] at l
      rw [hW4]
      exact l)
    rw [← hW4]
    clear hW4 L4
    have C7 := Lib.hid (fun W (hL : Lb w W ((w3.heap.size + 1 + 1 + 1, qv n.q n.e n.v) :: (w3.heap.size + 1 + 1, tv n.t) :: (w3.heap.size + 1, kv n.k) :: (w3.heap.size, hv n.s) :: boxes3 w.heap.size s k t) [⟨n, d, xs, F', g'⟩, ⟨begN s k t o0, d, xs, F, g⟩]) => Sh.hsame_yes n.s s d W E4.out.1 (hL.at ⟨begN s k t o0, d, xs, F, g⟩ (by simp)).h (hL.at ⟨n, d, xs, F', g'⟩ (by simp)).h HF.out.1)
    have C8 := Lib.hid (fun W (hL : Lb w W ((w3.heap.size + 1 + 1 + 1, qv n.q n.e n.v) :: (w3.heap.size + 1 + 1, tv n.t) :: (w3.heap.size + 1, kv n.k) :: (w3.heap.size, hv n.s) :: boxes3 w.heap.size s k t) [⟨n, d, xs, F', g'⟩, ⟨begN s k t o0, d, xs, F, g⟩]) => ksame_of (k := k) (k' := n.k) E4.out.2.1 (hL.at ⟨n, d, xs, F', g'⟩ (by simp)).c (hL.at ⟨begN s k t o0, d, xs, F, g⟩ (by simp)).c HF.out.2.1)
    go_upto_region 10 with (first
      | (refine w_load (ldHb (L5.out.bx (w3.heap.size) (hv n.s) (by simp [boxes3]))) rfl rfl rfl rfl ?_)
      | (refine w_load (ldHb (L5.out.bx (w.heap.size) (hv s) (by simp [boxes3]))) rfl rfl rfl rfl ?_)
      | ((go_at_call 15); (with_reducible refine (C7.out _ L5.out).mono ?_); rintro e9 w5 ⟨rfl, hb9⟩; have L6 := Lib.hid (L5.out.next hb9); clear hb9)
      | (refine w_loadg (ldKb (L6.out.bx (w3.heap.size + 1) (kv n.k) (by simp [boxes3]))) rfl (by kernel_rfl) rfl rfl ?_)
      | (refine w_loadg (ldKb (L6.out.bx (w.heap.size + 1) (kv k) (by simp [boxes3]))) rfl (by kernel_rfl) rfl rfl ?_)
      | ((go_at_call 16); (with_reducible refine (C8.out _ L6.out).mono ?_); rintro e9 w6 ⟨rfl, hb9⟩; have L7 := Lib.hid (L6.out.next hb9); clear hb9))
    have q9 := E4.out.2.2
    have u0 := (L7.out.bx (w3.heap.size + 1 + 1) (tv n.t) (by simp [boxes3])).cel 0 (.bool true) (by rw [← HV.out, ← q9.2.2.2.2.1]; rfl)
    have u11 := (L7.out.bx (w3.heap.size + 1 + 1) (tv n.t) (by simp [boxes3])).cel 11 (.slice n.t.o.a (t.o.n - 1) n.t.o.c) (by rw [← q9.2.2.2.2.2]; rfl)
    have u12 := (L7.out.bx (w3.heap.size + 1 + 1) (tv n.t) (by simp [boxes3])).cel 12 (.int .i64 0) (by rw [← q9.2.1]; rfl)
    have u13 := (L7.out.bx (w3.heap.size + 1 + 1) (tv n.t) (by simp [boxes3])).cel 13 (.int .i64 0) (by rw [← q9.2.2.1]; rfl)
    have u14 := (L7.out.bx (w3.heap.size + 1 + 1) (tv n.t) (by simp [boxes3])).cel 14 (.int .i64 0) (by rw [← q9.2.2.2.1]; rfl)
    have v1 := (L7.out.bx (w3.heap.size + 1 + 1 + 1) (qv n.q n.e n.v) (by simp [boxes3])).cel 1 (.int .i64 (g 0).k) (by rw [← q9.1]; rfl)
    have v2 := (L7.out.bx (w3.heap.size + 1 + 1 + 1) (qv n.q n.e n.v) (by simp [boxes3])).cel 2 (.int .i64 (g 0).a) (by rw [← q9.1]; rfl)
    have v3 := (L7.out.bx (w3.heap.size + 1 + 1 + 1) (qv n.q n.e n.v) (by simp [boxes3])).cel 3 (.int .i64 (g 0).b) (by rw [← q9.1]; rfl)
    have v4 := (L7.out.bx (w3.heap.size + 1 + 1 + 1) (qv n.q n.e n.v) (by simp [boxes3])).cel 4 (.int .i64 (g 0).c) (by rw [← q9.1]; rfl)
    have q11 := (L7.out.bx (w.heap.size + 2) (tv t) (by simp [boxes3])).cel 11 (.slice (some ⟨ob, off, none⟩) t.o.n t.o.c) (by rw [← HO.out.1]; rfl)
    have o0 := (L7.out.bel.cell (p := ⟨ob, off, none⟩) HO.out.2.1).trans HO.out.2.2
    have o1 := (L7.out.bel.cell (p := ⟨ob, off + 1, none⟩) HO.out.2.1).trans HQ.out.1
    have o2 := (L7.out.bel.cell (p := ⟨ob, off + 2, none⟩) HO.out.2.1).trans HQ.out.2.1
    have o3 := (L7.out.bel.cell (p := ⟨ob, off + 3, none⟩) HO.out.2.1).trans HQ.out.2.2
    obtain ⟨j, hj⟩ : ∃ j, t.o.n = j + 1 := ⟨t.o.n - 1, by have := HN.out; omega⟩
    have hjb : j ≤ 220 := by have := HF.out.2.2.1.1; omega
    rw [hj] at q11 u11
    rw [show j + 1 - 1 = j from rfl] at u11
    have c0 : IntKind.i64.wrap (((j + 1 : Nat) : Int) - 1) = (j : Int) := by rw [show ((j + 1 : Nat) : Int) - 1 = (j : Int) by omega]; exact IntWalk.i64_in _ (by omega)
    have c1 : ((j : Int) == (j : Int)) = true := by simp
    clear hj q9 g1 g2 g3
    go_quiet (fail)
    go_wp2
    go_ret
    exact ⟨rfl, Ls.below_drawn L7.out.bel _⟩
end
theorem walk (s : Hs) (d : Hd_) (k : Sh.Ks) (xs : List Int) (t : Ts) (F : Nat → List Int) (g : Nat → O4) (w : World) (hz : Cl.Sz w) (hp : Hp w w.heap.size s d) (hv : Fit64 d.ws) (_ : s.p.n ≤ s.p.c) (hk : Sh.WRow w w.heap.size k xs) (_ : k.wk.n ≤ k.wk.c) (_ : k.wk.c ≤ maxLen) (_ : (Lit.int .i64 k.ep).wf = true) (ht : Th w w.heap.size t F g) : Calls Tryz.prog 7 #[(.agg #[.slice s.w.a s.w.n s.w.c, .slice s.p.a s.p.n s.p.c, .slice (s.u 0).a (s.u 0).n (s.u 0).c, .slice (s.u 1).a (s.u 1).n (s.u 1).c, .slice (s.u 2).a (s.u 2).n (s.u 2).c, .slice s.c.a s.c.n s.c.c]), (.agg #[.int .i64 k.ph, .int .i64 k.ep, .bool k.mj, .slice k.wk.a k.wk.n k.wk.c, .bool k.ov, .int .i64 k.pa, .int .i64 k.pf, .int .i64 k.ps, .int .i64 k.pc, .bool k.me]), (.agg #[.bool t.lv, .int .i64 (t.r 0), .int .i64 (t.r 1), .int .i64 (t.r 2), .int .i64 (t.r 3), .slice (t.u 0).a (t.u 0).n (t.u 0).c, .slice (t.u 1).a (t.u 1).n (t.u 1).c, .slice (t.u 2).a (t.u 2).n (t.u 2).c, .int .i64 t.ep, .int .i64 t.sg, .int .i64 t.rt, .slice t.o.a t.o.n t.o.c, .int .i64 t.pc, .int .i64 t.x, .int .i64 t.y])] w fun e w' => e = .returned (.bool true) ∧ Below w.heap.size w w' := by
  cases hf : fewA s k t with
  | false => exact walk_few s k t d xs F g w hf hz hp hk ht
  | true =>
    by_cases hn : t.o.n = 0
    · exact walk_none s k t d xs F g w hf hn hz hp hk ht
    · have hn : 0 < t.o.n := by omega
      by_cases h4 : (g 0).k = 1 ∨ (g 0).k = 3 ∨ (g 0).k = 4 ∨ (g 0).k = 5
      · cases hT : takenB s d t F with
        | false => exact walk_not s k t d xs F g w hf hn hT h4 hv hz hp hk ht
        | true => exact walk_yes s k t d xs F g w hf hn hT h4 hv hz hp hk ht
      · exact walk_other s k t d xs F g w hf hn (fun e => h4 (.inl e)) (fun e => h4 (.inr (.inl e))) (fun e => h4 (.inr (.inr (.inl e)))) (fun e => h4 (.inr (.inr (.inr e)))) hz hp hk ht

-- the frame (hp14frame.py)
set_option maxRecDepth 100000 in
theorem lifted (os : Os) (started : os.Started) (H : Type) (enc : TypeId × Value → H) :
    ReturnsInHanded {} Tryz.checked os 7 .any (fun w args => (Rows.mutateReadsSpec.pre enc Tryz.prog Tryz.f7 [] false w args ∧ laidMetH Tryz.prog laidSizes w) ∧ sizedMet enc Tryz.prog Tryz.f7 (OpenSpec.ofChange Rows.mutateReadsSpec) false w args)
      (Rows.mutateReadsSpec.post enc Tryz.prog Tryz.f7 false true false false) := by
  refine returnsInHanded_of_change_and (C := Tryz.checked) (X := fun w _ => laidMetH Tryz.prog laidSizes w) (fun _ _ _ hh h => h.of_heap hh) own started (by kernel_rfl) Tryz.func7
    (ChangeSpec.witness_shaped (enc := enc) (C := Tryz.checked) (os := os) (X := fun w _ => laidMetH Tryz.prog laidSizes w) false (World.doorLaid Tryz.prog 400 os) #[.agg #[.slice none 0 0, .slice none 0 0, .slice none 0 0, .slice none 0 0, .slice none 0 0, .slice none 0 0], .agg #[.int .i64 0, .int .i64 0, .bool false, .slice none 0 0, .bool false, .int .i64 0, .int .i64 0, .int .i64 0, .int .i64 0, .bool false], .agg #[.bool false, .int .i64 0, .int .i64 0, .int .i64 0, .int .i64 0, .slice none 0 0, .slice none 0 0, .slice none 0 0, .int .i64 0, .int .i64 0, .int .i64 0, .slice none 0 0, .int .i64 0, .int .i64 0, .int .i64 0]] 8 rfl (World.shaped_of_RefB (by kernel_rfl) (by kernel_rfl)) (by kernel_rfl) (by kernel_rfl) (by kernel_rfl) (door_met os _)) ?_
  intro W base args ds gs before hval0 hW _ _ hL _
  have hval : ∀ (j : Nat) t v, Tryz.f7.params[j]? = some t → args[j]? = some v → Value.okWide Tryz.prog W .any base t v := hval0
  have hW' := hW
  obtain ⟨p, q, hA0, hV, rfl, hfz, hnd⟩ := hW
  have hA : DataW.TrodAll enc Tryz.prog W 0 (fun _ => true) true Tryz.f7.params.toList args.toList ds p := hA0
  rw [Tryz.params7] at hA hval
  obtain ⟨v0, vs0, d0, ds0, p0, q0, hargs, rfl, rfl, h0, r0⟩ := trodAll_cons hA
  obtain ⟨v1, vs1, d1, ds1, p1, q1, rfl, rfl, rfl, h1, r1⟩ := trodAll_cons r0
  obtain ⟨v2, vs2, d2, ds2, p2, q2, rfl, rfl, rfl, h2, r2⟩ := trodAll_cons r1
  obtain ⟨rfl, rfl, rfl⟩ := trodAll_nil r2
  obtain rfl : args = #[v0, v1, v2] := by cases args; simp_all
  obtain ⟨rfl, rfl⟩ := trodVars_none hV
  have k0 := h0
  have lt0 : ∀ x ∈ p0, x.block < W.heap.size := by obtain ⟨m, hm⟩ := k0; exact DataW.trod_lt m _ _ _ hm
  obtain ⟨s0, z0, rfl, w0, f0, b0⟩ := heap_of8 (hval 0 28 v0 rfl rfl) h0
  have k1 := h1
  have lt1 : ∀ x ∈ p1, x.block < W.heap.size := by obtain ⟨m, hm⟩ := k1; exact DataW.trod_lt m _ _ _ hm
  obtain ⟨k1', z1, rfl, w1, m1, x1, f1⟩ := Sh.col_of (hval 1 30 v1 rfl rfl) h1
  have k2 := h2
  have lt2 : ∀ x ∈ p2, x.block < W.heap.size := by obtain ⟨m, hm⟩ := k2; exact DataW.trod_lt m _ _ _ hm
  obtain ⟨t2, z2, g2, rfl, w2⟩ := Rt.th_of (hval 2 34 v2 rfl rfl) h2
  clear hA0 hval0
  refine (walk s0 z0 k1' z1 t2 z2 g2 W (of_laid hL) w0 f0 b0 w1 m1 x1 f1 w2).mono fun e W' ⟨he, bel⟩ => ?_
  subst he
  exact ⟨_, rfl, _, _, _, [], _, [], hW', trodAll_mk1 (shut_bool Tryz.underlying4 _), (trodAll_cons_mk (Below.trod laidOut (by kernel_rfl) (of_decide_eq_true (by kernel_rfl)) k0 bel lt0) (trodAll_cons_mk (Below.trod laidOut (by kernel_rfl) (of_decide_eq_true (by kernel_rfl)) k1 bel lt1) (trodAll_cons_mk (Below.trod laidOut (by kernel_rfl) (of_decide_eq_true (by kernel_rfl)) k2 bel lt2) trodAll_mk0))), rfl, bel.frame _, fun h => by cases h⟩

theorem over : Rows.MutateReadsSaid :=
  OpenClaim.holds_of_wide 7 Tryz.f7 rfl rfl rfl rfl rfl rfl rfl ⟨rfl, rfl, rfl, rfl, rfl⟩ rfl rfl rfl rfl rfl (by kernel_rfl) Tryz.func7 (by kernel_rfl)
    (of_decide_eq_true (by kernel_rfl)) (by unfold Func.isWrapper; first | (rw [if_pos (by decide +kernel)]; kernel_rfl) | (rw [if_neg (by decide +kernel)]; exact ⟨rfl, rfl⟩))
    (fun os started H enc _ => lifted os started H enc)

/-- The statement: the card. -/
theorem proved : Rows.MutateReadsCardSaid :=
  Claim7.holds_tied_plain_at .later [] [.data] true Rows.mutateReadsCard.stood.harness false
    over (fun _ h => by cases h) (by kernel_rfl) (fun _ h => by cases h) mutateReads_row_tie rfl ⟨rfl, rfl⟩ (by kernel_rfl) rfl
    (fun f fn hf hfn => by
      obtain rfl : f = 7 := Option.some.inj ((show Tryz.prog.funcNamed "ragpicker/ragpickerlaw14.MutateReads" = some 7 by kernel_rfl).symm.trans hf) |>.symm
      obtain rfl : fn = Tryz.f7 := (Option.some.inj (Tryz.func7.symm.trans hfn)).symm
      exact ⟨by kernel_rfl, fun j t ht => by
        rw [Tryz.params7] at ht
        have hm : t ∈ [28, 30, 34] := by simpa using Array.mem_of_getElem? ht
        have hall : ([28, 30, 34].all fun u => !Tryz.prog.wantsStandIn u) = true := by kernel_rfl
        exact (show Tryz.prog.wantsStandIn t = false by simpa using List.all_eq_true.1 hall t hm)⟩)
    (by kernel_rfl)
#print axioms proved
end Go.Proofs.YtfjhhfncapmnmaaGreatDoor.MutateReads
