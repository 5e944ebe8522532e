/-
  The reference's Colour and Grey.
-/
import Derived.Test.YtccjelpfmkbmiaaGreatDoorHpWK
import Derived.Test.YtccjelpfmkbmiaaGreatDoorHpWL
import Derived.Test.YtccjelpfmkbmiaaGreatDoorHpWI
import Derived.Test.YtccjelpfmkbmiaaGreatDoorHpWG
namespace Go.Proofs.YtccjelpfmkbmiaaGreatDoor.Tr
open Go.Proofs.YtccjelpfmkbmiaaGreatDoor Go.Proofs.YtccjelpfmkbmiaaGreatDoor.Rt
open Go.RowKit
open Go.Proofs.YtccjelpfmkbmiaaGreatDoor.Mu (hv kv w_load w_store w_loadg ldHb ldKb stHb stKb st_int ld_int p_load p_store ev region_plan noHs0 noK0)
open Go.Proofs.YtccjelpfmkbmiaaGreatDoor.Ha (region_planK pl_full putD w_skip)
set_option maxRecDepth 100000

/-- A colour: 0 where no object begins, or none that is asked for. -/
def colQ (s : Hs) (d : Hd_) (mj : Bool) (ep a : Int) : Int := if headE s d a = 0 ∧ 0 ≤ ep ∧ ep ≤ 1048576 then Sh.colW (wd d a) mj ep else 0
theorem col_is {s : Hs} {d : Hd_} {mj : Bool} {ep a q : Int} (hq : ¬ q = 0) : colQ s d mj ep a = q ↔ Sh.isC s d mj ep a q = true := by
  rw [Sh.isC_iff]
  unfold colQ
  split
  · next h => exact ⟨fun e => ⟨h.2, h.1, e⟩, fun e => e.2.2⟩
  · next h => exact ⟨fun e => absurd e.symm hq, fun e => absurd ⟨e.2.1, e.1⟩ h⟩
theorem col_four (s : Hs) (d : Hd_) (mj : Bool) (ep a : Int) : colQ s d mj ep a = 0 ∨ colQ s d mj ep a = 1 ∨ colQ s d mj ep a = 2 ∨ colQ s d mj ep a = 3 := by
  unfold colQ Sh.colW
  repeat' split
  all_goals simp
section
variable (s : Hs) (d : Hd_) (k : Sh.Ks) (a : Int) (w : World)
set_option maxHeartbeats 1000000 in
theorem col_err (u o e : Bool) (n b m er : Int) (he : ¬ er = 0) (hp : Hp w w.heap.size s d) (hH : ∀ W, Hp W W.heap.size s d → Calls Tryz.prog 33 #[(.agg #[.slice s.w.a s.w.n s.w.c, .slice s.p.a s.p.n s.p.c, .slice (s.u 0).a (s.u 0).n (s.u 0).c, .slice (s.u 1).a (s.u 1).n (s.u 1).c, .slice (s.u 2).a (s.u 2).n (s.u 2).c, .slice s.c.a s.c.n s.c.c]), .int .i64 a] W (HeadOut W (.agg #[.bool u, .bool o, .bool e, .int .i64 n, .int .i64 b, .int .i64 m]) er)) : Calls Tryz.prog 34 #[(.agg #[.slice s.w.a s.w.n s.w.c, .slice s.p.a s.p.n s.p.c, .slice (s.u 0).a (s.u 0).n (s.u 0).c, .slice (s.u 1).a (s.u 1).n (s.u 1).c, .slice (s.u 2).a (s.u 2).n (s.u 2).c, .slice s.c.a s.c.n s.c.c]), (.agg #[.int .i64 k.ph, .int .i64 k.ep, .bool k.mj, .slice k.wk.a k.wk.n k.wk.c, .bool k.ov, .int .i64 k.pa, .int .i64 k.pf, .int .i64 k.ps, .int .i64 k.pc, .bool k.me]), .int .i64 a] w fun r w' => r = .returned (.int .i64 0) ∧ Below w.heap.size w w' := by
  have HP := Lib.hid hp
  have HC := Lib.hid hH
  have c1 : (er == 0) = false := decide_eq_false he
  have c2 : (er != 0) = true := by rw [bne, c1]; rfl
  clear hp hH he
  go_enter Tryz.func34, Tryz.ntmps34
  go_upto_region 1 with fail
  obtain ⟨W1, hW1⟩ : ∃ W1, W1 = (w.alloc (.cells #[.slice s.w.a s.w.n s.w.c, .slice s.p.a s.p.n s.p.c, .slice (s.u 0).a (s.u 0).n (s.u 0).c, .slice (s.u 1).a (s.u 1).n (s.u 1).c, .slice (s.u 2).a (s.u 2).n (s.u 2).c, .slice s.c.a s.c.n s.c.c] 28)).alloc (.cells #[.int .i64 k.ph, .int .i64 k.ep, .bool k.mj, .slice k.wk.a k.wk.n k.wk.c, .bool k.ov, .int .i64 k.pa, .int .i64 k.pf, .int .i64 k.ps, .int .i64 k.pc, .bool k.me] 30) := ⟨_, rfl⟩
  have hb1 : Below w.heap.size w W1 := by rw [hW1]; exact ((Below.refl _ _).alloc (Nat.le_refl _) _).alloc (by simp) _
  have L1 := Lib.hid ((lq_none w).two (s := s) (k := k) hW1)
  have P1 := Lib.hid (HP.out.next hb1)
  rw [← hW1]
  clear hW1 hb1
  go_upto_region 2 with (first
    | (refine w_load (ldHb (L1.out.bx w.heap.size (hv s) (by simp))) rfl rfl rfl rfl ?_)
    | ((go_at_call 33); (with_reducible refine (HC.out _ P1.out).mono ?_); rintro e9 w2 ⟨rfl, hb9⟩; have L2 := Lib.hid (L1.out.next hb9); clear hb9))
  obtain ⟨W3, hW3⟩ : ∃ W3, W3 = w2.alloc (.cells #[.bool u, .bool o, .bool e, .int .i64 n, .int .i64 b, .int .i64 m] 53) := ⟨_, rfl⟩
  have L3 := Lib.hid (L2.out.lay [.bool u, .bool o, .bool e, .int .i64 n, .int .i64 b, .int .i64 m] 53)
  rw [show w2.alloc (.cells (#[.bool u, .bool o, .bool e, .int .i64 n, .int .i64 b, .int .i64 m]) 53) = W3 from hW3.symm] at L3
  obtain ⟨bx, hbx⟩ : ∃ bx, bx = w2.heap.size := ⟨_, rfl⟩
  rw [← hbx] at L3
  rw [← hW3, ← hbx]
  clear hW3 hbx L1 L2 P1
  go_wp2
  go_ret
  exact ⟨rfl, L3.out.bel⟩
set_option maxHeartbeats 1000000 in
theorem col_low (u o e : Bool) (n b m : Int) (h : k.ep < 0) (hp : Hp w w.heap.size s d) (hH : ∀ W, Hp W W.heap.size s d → Calls Tryz.prog 33 #[(.agg #[.slice s.w.a s.w.n s.w.c, .slice s.p.a s.p.n s.p.c, .slice (s.u 0).a (s.u 0).n (s.u 0).c, .slice (s.u 1).a (s.u 1).n (s.u 1).c, .slice (s.u 2).a (s.u 2).n (s.u 2).c, .slice s.c.a s.c.n s.c.c]), .int .i64 a] W (HeadOut W (.agg #[.bool u, .bool o, .bool e, .int .i64 n, .int .i64 b, .int .i64 m]) 0)) : Calls Tryz.prog 34 #[(.agg #[.slice s.w.a s.w.n s.w.c, .slice s.p.a s.p.n s.p.c, .slice (s.u 0).a (s.u 0).n (s.u 0).c, .slice (s.u 1).a (s.u 1).n (s.u 1).c, .slice (s.u 2).a (s.u 2).n (s.u 2).c, .slice s.c.a s.c.n s.c.c]), (.agg #[.int .i64 k.ph, .int .i64 k.ep, .bool k.mj, .slice k.wk.a k.wk.n k.wk.c, .bool k.ov, .int .i64 k.pa, .int .i64 k.pf, .int .i64 k.ps, .int .i64 k.pc, .bool k.me]), .int .i64 a] w fun r w' => r = .returned (.int .i64 0) ∧ Below w.heap.size w w' := by
  have HP := Lib.hid hp
  have HC := Lib.hid hH
  have c1 : decide (k.ep < 0) = true := decide_eq_true h
  clear hp hH h
  go_enter Tryz.func34, Tryz.ntmps34
  go_upto_region 1 with fail
  obtain ⟨W1, hW1⟩ : ∃ W1, W1 = (w.alloc (.cells #[.slice s.w.a s.w.n s.w.c, .slice s.p.a s.p.n s.p.c, .slice (s.u 0).a (s.u 0).n (s.u 0).c, .slice (s.u 1).a (s.u 1).n (s.u 1).c, .slice (s.u 2).a (s.u 2).n (s.u 2).c, .slice s.c.a s.c.n s.c.c] 28)).alloc (.cells #[.int .i64 k.ph, .int .i64 k.ep, .bool k.mj, .slice k.wk.a k.wk.n k.wk.c, .bool k.ov, .int .i64 k.pa, .int .i64 k.pf, .int .i64 k.ps, .int .i64 k.pc, .bool k.me] 30) := ⟨_, rfl⟩
  have hb1 : Below w.heap.size w W1 := by rw [hW1]; exact ((Below.refl _ _).alloc (Nat.le_refl _) _).alloc (by simp) _
  have L1 := Lib.hid ((lq_none w).two (s := s) (k := k) hW1)
  have P1 := Lib.hid (HP.out.next hb1)
  rw [← hW1]
  clear hW1 hb1
  go_upto_region 2 with (first
    | (refine w_load (ldHb (L1.out.bx w.heap.size (hv s) (by simp))) rfl rfl rfl rfl ?_)
    | ((go_at_call 33); (with_reducible refine (HC.out _ P1.out).mono ?_); rintro e9 w2 ⟨rfl, hb9⟩; have L2 := Lib.hid (L1.out.next hb9); clear hb9))
  obtain ⟨W3, hW3⟩ : ∃ W3, W3 = w2.alloc (.cells #[.bool u, .bool o, .bool e, .int .i64 n, .int .i64 b, .int .i64 m] 53) := ⟨_, rfl⟩
  have L3 := Lib.hid (L2.out.lay [.bool u, .bool o, .bool e, .int .i64 n, .int .i64 b, .int .i64 m] 53)
  rw [show w2.alloc (.cells (#[.bool u, .bool o, .bool e, .int .i64 n, .int .i64 b, .int .i64 m]) 53) = W3 from hW3.symm] at L3
  obtain ⟨bx, hbx⟩ : ∃ bx, bx = w2.heap.size := ⟨_, rfl⟩
  rw [← hbx] at L3
  rw [← hW3, ← hbx]
  clear hW3 hbx L1 L2 P1
  have k1 := (L3.out.bx (w.heap.size + 1) (kv k) (by simp)).cel 1 (.int .i64 k.ep) rfl
  go_wp2
  go_ret
  exact ⟨rfl, L3.out.bel⟩
set_option maxHeartbeats 1000000 in
theorem col_high (u o e : Bool) (n b m : Int) (h : 1048576 < k.ep) (hp : Hp w w.heap.size s d) (hH : ∀ W, Hp W W.heap.size s d → Calls Tryz.prog 33 #[(.agg #[.slice s.w.a s.w.n s.w.c, .slice s.p.a s.p.n s.p.c, .slice (s.u 0).a (s.u 0).n (s.u 0).c, .slice (s.u 1).a (s.u 1).n (s.u 1).c, .slice (s.u 2).a (s.u 2).n (s.u 2).c, .slice s.c.a s.c.n s.c.c]), .int .i64 a] W (HeadOut W (.agg #[.bool u, .bool o, .bool e, .int .i64 n, .int .i64 b, .int .i64 m]) 0)) : Calls Tryz.prog 34 #[(.agg #[.slice s.w.a s.w.n s.w.c, .slice s.p.a s.p.n s.p.c, .slice (s.u 0).a (s.u 0).n (s.u 0).c, .slice (s.u 1).a (s.u 1).n (s.u 1).c, .slice (s.u 2).a (s.u 2).n (s.u 2).c, .slice s.c.a s.c.n s.c.c]), (.agg #[.int .i64 k.ph, .int .i64 k.ep, .bool k.mj, .slice k.wk.a k.wk.n k.wk.c, .bool k.ov, .int .i64 k.pa, .int .i64 k.pf, .int .i64 k.ps, .int .i64 k.pc, .bool k.me]), .int .i64 a] w fun r w' => r = .returned (.int .i64 0) ∧ Below w.heap.size w w' := by
  have HP := Lib.hid hp
  have HC := Lib.hid hH
  have c1 : decide (k.ep < 0) = false := decide_eq_false (by omega)
  have c2 : decide (k.ep > 1048576) = true := decide_eq_true h
  have c3 : decide (1048576 < k.ep) = true := c2
  clear hp hH h
  go_enter Tryz.func34, Tryz.ntmps34
  go_upto_region 1 with fail
  obtain ⟨W1, hW1⟩ : ∃ W1, W1 = (w.alloc (.cells #[.slice s.w.a s.w.n s.w.c, .slice s.p.a s.p.n s.p.c, .slice (s.u 0).a (s.u 0).n (s.u 0).c, .slice (s.u 1).a (s.u 1).n (s.u 1).c, .slice (s.u 2).a (s.u 2).n (s.u 2).c, .slice s.c.a s.c.n s.c.c] 28)).alloc (.cells #[.int .i64 k.ph, .int .i64 k.ep, .bool k.mj, .slice k.wk.a k.wk.n k.wk.c, .bool k.ov, .int .i64 k.pa, .int .i64 k.pf, .int .i64 k.ps, .int .i64 k.pc, .bool k.me] 30) := ⟨_, rfl⟩
  have hb1 : Below w.heap.size w W1 := by rw [hW1]; exact ((Below.refl _ _).alloc (Nat.le_refl _) _).alloc (by simp) _
  have L1 := Lib.hid ((lq_none w).two (s := s) (k := k) hW1)
  have P1 := Lib.hid (HP.out.next hb1)
  rw [← hW1]
  clear hW1 hb1
  go_upto_region 2 with (first
    | (refine w_load (ldHb (L1.out.bx w.heap.size (hv s) (by simp))) rfl rfl rfl rfl ?_)
    | ((go_at_call 33); (with_reducible refine (HC.out _ P1.out).mono ?_); rintro e9 w2 ⟨rfl, hb9⟩; have L2 := Lib.hid (L1.out.next hb9); clear hb9))
  obtain ⟨W3, hW3⟩ : ∃ W3, W3 = w2.alloc (.cells #[.bool u, .bool o, .bool e, .int .i64 n, .int .i64 b, .int .i64 m] 53) := ⟨_, rfl⟩
  have L3 := Lib.hid (L2.out.lay [.bool u, .bool o, .bool e, .int .i64 n, .int .i64 b, .int .i64 m] 53)
  rw [show w2.alloc (.cells (#[.bool u, .bool o, .bool e, .int .i64 n, .int .i64 b, .int .i64 m]) 53) = W3 from hW3.symm] at L3
  obtain ⟨bx, hbx⟩ : ∃ bx, bx = w2.heap.size := ⟨_, rfl⟩
  rw [← hbx] at L3
  rw [← hW3, ← hbx]
  clear hW3 hbx L1 L2 P1
  have k1 := (L3.out.bx (w.heap.size + 1) (kv k) (by simp)).cel 1 (.int .i64 k.ep) rfl
  go_wp2
  go_ret
  exact ⟨rfl, L3.out.bel⟩
set_option maxHeartbeats 2000000 in
theorem col_in (o e mj lt : Bool) (n b m : Int) (h0 : 0 ≤ k.ep) (h1 : k.ep ≤ 1048576) (hmj : k.mj = mj) (hlt : decide (m < k.ep) = lt) (hp : Hp w w.heap.size s d) (hH : ∀ W, Hp W W.heap.size s d → Calls Tryz.prog 33 #[(.agg #[.slice s.w.a s.w.n s.w.c, .slice s.p.a s.p.n s.p.c, .slice (s.u 0).a (s.u 0).n (s.u 0).c, .slice (s.u 1).a (s.u 1).n (s.u 1).c, .slice (s.u 2).a (s.u 2).n (s.u 2).c, .slice s.c.a s.c.n s.c.c]), .int .i64 a] W (HeadOut W (.agg #[.bool true, .bool o, .bool e, .int .i64 n, .int .i64 b, .int .i64 m]) 0)) : Calls Tryz.prog 34 #[(.agg #[.slice s.w.a s.w.n s.w.c, .slice s.p.a s.p.n s.p.c, .slice (s.u 0).a (s.u 0).n (s.u 0).c, .slice (s.u 1).a (s.u 1).n (s.u 1).c, .slice (s.u 2).a (s.u 2).n (s.u 2).c, .slice s.c.a s.c.n s.c.c]), (.agg #[.int .i64 k.ph, .int .i64 k.ep, .bool k.mj, .slice k.wk.a k.wk.n k.wk.c, .bool k.ov, .int .i64 k.pa, .int .i64 k.pf, .int .i64 k.ps, .int .i64 k.pc, .bool k.me]), .int .i64 a] w fun r w' => r = .returned (.int .i64 (if (o && !mj) = true then 0 else if lt = true then 1 else if e = true then 3 else 2)) ∧ Below w.heap.size w w' := by
  have HP := Lib.hid hp
  have HC := Lib.hid hH
  have c1 : decide (k.ep < 0) = false := decide_eq_false (by omega)
  have c2 : decide (k.ep > 1048576) = false := decide_eq_false (by omega)
  have c3 : decide (1048576 < k.ep) = false := c2
  have HM := Lib.hid hmj
  have HT := Lib.hid hlt
  clear hp hH h0 h1 hmj hlt
  go_enter Tryz.func34, Tryz.ntmps34
  go_upto_region 1 with fail
  obtain ⟨W1, hW1⟩ : ∃ W1, W1 = (w.alloc (.cells #[.slice s.w.a s.w.n s.w.c, .slice s.p.a s.p.n s.p.c, .slice (s.u 0).a (s.u 0).n (s.u 0).c, .slice (s.u 1).a (s.u 1).n (s.u 1).c, .slice (s.u 2).a (s.u 2).n (s.u 2).c, .slice s.c.a s.c.n s.c.c] 28)).alloc (.cells #[.int .i64 k.ph, .int .i64 k.ep, .bool k.mj, .slice k.wk.a k.wk.n k.wk.c, .bool k.ov, .int .i64 k.pa, .int .i64 k.pf, .int .i64 k.ps, .int .i64 k.pc, .bool k.me] 30) := ⟨_, rfl⟩
  have hb1 : Below w.heap.size w W1 := by rw [hW1]; exact ((Below.refl _ _).alloc (Nat.le_refl _) _).alloc (by simp) _
  have L1 := Lib.hid ((lq_none w).two (s := s) (k := k) hW1)
  have P1 := Lib.hid (HP.out.next hb1)
  rw [← hW1]
  clear hW1 hb1
  go_upto_region 2 with (first
    | (refine w_load (ldHb (L1.out.bx w.heap.size (hv s) (by simp))) rfl rfl rfl rfl ?_)
    | ((go_at_call 33); (with_reducible refine (HC.out _ P1.out).mono ?_); rintro e9 w2 ⟨rfl, hb9⟩; have L2 := Lib.hid (L1.out.next hb9); clear hb9))
  obtain ⟨W3, hW3⟩ : ∃ W3, W3 = w2.alloc (.cells #[.bool true, .bool o, .bool e, .int .i64 n, .int .i64 b, .int .i64 m] 53) := ⟨_, rfl⟩
  have L3 := Lib.hid (L2.out.lay [.bool true, .bool o, .bool e, .int .i64 n, .int .i64 b, .int .i64 m] 53)
  rw [show w2.alloc (.cells (#[.bool true, .bool o, .bool e, .int .i64 n, .int .i64 b, .int .i64 m]) 53) = W3 from hW3.symm] at L3
  obtain ⟨bx, hbx⟩ : ∃ bx, bx = w2.heap.size := ⟨_, rfl⟩
  rw [← hbx] at L3
  rw [← hW3, ← hbx]
  clear hW3 hbx L1 L2 P1
  have k1 := (L3.out.bx (w.heap.size + 1) (kv k) (by simp)).cel 1 (.int .i64 k.ep) rfl
  have k2 := (L3.out.bx (w.heap.size + 1) (kv k) (by simp)).cel 2 (.bool mj) (by rw [← HM.out]; rfl)
  have x1 := (L3.out.bx bx [.bool true, .bool o, .bool e, .int .i64 n, .int .i64 b, .int .i64 m] (by simp)).cel 1 (.bool o) rfl
  have x2 := (L3.out.bx bx [.bool true, .bool o, .bool e, .int .i64 n, .int .i64 b, .int .i64 m] (by simp)).cel 2 (.bool e) rfl
  have x5 := (L3.out.bx bx [.bool true, .bool o, .bool e, .int .i64 n, .int .i64 b, .int .i64 m] (by simp)).cel 5 (.int .i64 m) rfl
  have hlt := HT.out
  cases o <;> cases mj <;> cases lt <;> cases e <;>
  (go_wp2
   go_ret
   exact ⟨rfl, L3.out.bel⟩)
end
theorem rcol_any (s : Hs) (d : Hd_) (k : Sh.Ks) (a : Int) (w : World) (hp : Hp w w.heap.size s d) (hf : Fine s d) : Calls Tryz.prog 34 #[(.agg #[.slice s.w.a s.w.n s.w.c, .slice s.p.a s.p.n s.p.c, .slice (s.u 0).a (s.u 0).n (s.u 0).c, .slice (s.u 1).a (s.u 1).n (s.u 1).c, .slice (s.u 2).a (s.u 2).n (s.u 2).c, .slice s.c.a s.c.n s.c.c]), (.agg #[.int .i64 k.ph, .int .i64 k.ep, .bool k.mj, .slice k.wk.a k.wk.n k.wk.c, .bool k.ov, .int .i64 k.pa, .int .i64 k.pf, .int .i64 k.ps, .int .i64 k.pc, .bool k.me]), .int .i64 a] w fun e w' => e = .returned (.int .i64 (colQ s d k.mj k.ep a)) ∧ Below w.heap.size w w' := by
  have hH := fun W (hW : Hp W W.heap.size s d) => rhead_any s d a W hW hf
  unfold colQ
  by_cases h0 : headE s d a = 0
  · have ho := Sh.obj_of h0
    rw [ho.val, h0] at hH
    by_cases h1 : k.ep < 0
    · rw [if_neg (by omega)]
      exact col_low s d k a w _ _ _ _ _ _ h1 hp hH
    · by_cases h2 : 1048576 < k.ep
      · rw [if_neg (by omega)]
        exact col_high s d k a w _ _ _ _ _ _ h2 hp hH
      · rw [if_pos ⟨h0, by omega, by omega⟩]
        have h := col_in s d k a w _ _ _ _ _ _ _ (by omega) (by omega) rfl rfl hp hH
        rw [show Sh.colW (wd d a) k.mj k.ep = (if (decide (wd d a / 2 % 2 = 1) && !k.mj) = true then 0 else if decide (wd d a / 4294967296 < k.ep) = true then 1 else if decide (wd d a / 4 % 2 = 1) = true then 3 else 2) by
          unfold Sh.colW
          simp only [Bool.and_eq_true, decide_eq_true_eq, Bool.not_eq_true']]
        exact h
  · rw [if_neg (fun hh => h0 hh.1)]
    obtain ⟨u, o, e, n, b, m, hV⟩ := head_form s d a
    rw [hV] at hH
    exact col_err s d k a w _ _ _ _ _ _ _ h0 hp hH
theorem rused_any (n : Q2) (w : World) (hn : Hold w n) (hf : Fine n.s n.d) : Calls Tryz.prog 31 #[(.agg #[.slice n.s.w.a n.s.w.n n.s.w.c, .slice n.s.p.a n.s.p.n n.s.p.c, .slice (n.s.u 0).a (n.s.u 0).n (n.s.u 0).c, .slice (n.s.u 1).a (n.s.u 1).n (n.s.u 1).c, .slice (n.s.u 2).a (n.s.u 2).n (n.s.u 2).c, .slice n.s.c.a n.s.c.n n.s.c.c])] w (Ls.AllOut w (usedL n.s n.d)) := Go.Proofs.YtccjelpfmkbmiaaGreatDoor.rused_any n.s n.d w hn.h hf
end Go.Proofs.YtccjelpfmkbmiaaGreatDoor.Tr
