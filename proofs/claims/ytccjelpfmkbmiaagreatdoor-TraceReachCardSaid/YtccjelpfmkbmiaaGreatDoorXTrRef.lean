/-
  The reference's Colour and Grey.
-/
import Derived.Test.YtccjelpfmkbmiaaGreatDoorHpXK
import Derived.Test.YtccjelpfmkbmiaaGreatDoorHpXL
import Derived.Test.YtccjelpfmkbmiaaGreatDoorHpXI
import Derived.Test.YtccjelpfmkbmiaaGreatDoorHpXG
namespace Go.Proofs.YtccjelpfmkbmiaaGreatDoor.Tr
open Go.Proofs.YtccjelpfmkbmiaaGreatDoor Go.Proofs.YtccjelpfmkbmiaaGreatDoor.Rt
open Go.RowKit
open Go.Proofs.YtccjelpfmkbmiaaGreatDoor.Mu (hv kv w_load w_store w_loadg ldHb ldKb stHb stKb st_int ld_int p_load p_store ev region_plan noHs0 noK0)
open Go.Proofs.YtccjelpfmkbmiaaGreatDoor.Ha (region_planK pl_full putD w_skip)
set_option maxRecDepth 100000

/-- A colour: 0 where no object begins, or none that is asked for. -/
def colQ (s : Hs) (d : Hd_) (mj : Bool) (ep a : Int) : Int := if headE s d a = 0 ∧ 0 ≤ ep ∧ ep ≤ 1048576 then Sh.colW (wd d a) mj ep else 0
theorem col_is {s : Hs} {d : Hd_} {mj : Bool} {ep a q : Int} (hq : ¬ q = 0) : colQ s d mj ep a = q ↔ Sh.isC s d mj ep a q = true := by
  rw [Sh.isC_iff]
  unfold colQ
  split
  · next h => exact ⟨fun e => ⟨h.2, h.1, e⟩, fun e => e.2.2⟩
  · next h => exact ⟨fun e => absurd e.symm hq, fun e => absurd ⟨e.2.1, e.1⟩ h⟩
theorem col_four (s : Hs) (d : Hd_) (mj : Bool) (ep a : Int) : colQ s d mj ep a = 0 ∨ colQ s d mj ep a = 1 ∨ colQ s d mj ep a = 2 ∨ colQ s d mj ep a = 3 := by
  unfold colQ Sh.colW
  repeat' split
  all_goals simp
section
variable (s : Hs) (d : Hd_) (k : Sh.Ks) (a : Int) (w : World)
set_option maxHeartbeats 1000000 in
theorem col_err (u o e : Bool) (n b m er : Int) (he : ¬ er = 0) (hp : Hp w w.heap.size s d) (hH : ∀ W, Hp W W.heap.size s d → Calls Tryz.prog 33 #[(.agg #[.slice s.w.a s.w.n s.w.c, .slice s.p.a s.p.n s.p.c, .slice (s.u 0).a (s.u 0).n (s.u 0).c, .slice (s.u 1).a (s.u 1).n (s.u 1).c, .slice (s.u 2).a (s.u 2).n (s.u 2).c, .slice s.c.a s.c.n s.c.c]), .int .i64 a] W (HeadOut W (.agg #[.bool u, .bool o, .bool e, .int .i64 n, .int .i64 b, .int .i64 m]) er)) : Calls Tryz.prog 34 #[(.agg #[.slice s.w.a s.w.n s.w.c, .slice s.p.a s.p.n s.p.c, .slice (s.u 0).a (s.u 0).n (s.u 0).c, .slice (s.u 1).a (s.u 1).n (s.u 1).c, .slice (s.u 2).a (s.u 2).n (s.u 2).c, .slice s.c.a s.c.n s.c.c]), (.agg #[.int .i64 k.ph, .int .i64 k.ep, .bool k.mj, .slice k.wk.a k.wk.n k.wk.c, .bool k.ov, .int .i64 k.pa, .int .i64 k.pf, .int .i64 k.ps, .int .i64 k.pc, .bool k.me]), .int .i64 a] w fun r w' => r = .returned (.int .i64 0) ∧ Below w.heap.size w w' := by
  have HP := Lib.hid hp
  have HC := Lib.hid hH
  have c1 : (er == 0) = false := decide_eq_false he
  have c2 : (er != 0) = true := by rw [bne, c1]; rfl
  clear hp hH he
  go_enter Tryz.func34, Tryz.ntmps34
  go_upto_region 1 with fail
  obtain ⟨W1, hW1⟩ : ∃ W1, W1 = (w.alloc (.cells #[.slice s.w.a s.w.n s.w.c, .slice s.p.a s.p.n s.p.c, .slice (s.u 0).a (s.u 0).n (s.u 0).c, .slice (s.u 1).a (s.u 1).n (s.u 1).c, .slice (s.u 2).a (s.u 2).n (s.u 2).c, .slice s.c.a s.c.n s.c.c] 28)).alloc (.cells #[.int .i64 k.ph, .int .i64 k.ep, .bool k.mj, .slice k.wk.a k.wk.n k.wk.c, .bool k.ov, .int .i64 k.pa, .int .i64 k.pf, .int .i64 k.ps, .int .i64 k.pc, .bool k.me] 30) := ⟨_, rfl⟩
  have hb1 : Below w.heap.size w W1 := by rw [hW1]; exact ((Below.refl _ _).alloc (Nat.le_refl _) _).alloc (by simp) _
  have L1 := Lib.hid ((lq_none w).two (s := s) (k := k) hW1)
  have P1 := Lib.hid (HP.out.next hb1)
  rw [← hW1]
  clear hW1 hb1
  go_upto_region 2 with (first
    | (refine w_load (ldHb (L1.out.bx w.heap.size (hv s) (by simp))) rfl rfl rfl rfl ?_)
    | ((go_at_call 33); (with_reducible refine (HC.out _ P1.out).mono ?_); rintro e9 w2 ⟨rfl, hb9⟩; have L2 := Lib.hid (L1.out.next hb9); clear hb9))
  obtain ⟨W3, hW3⟩ : ∃ W3, W3 = w2.alloc (.cells #[.bool u, .bool o, .bool e, .int .i64 n, .int .i64 b, .int .i64 m] 53) := ⟨_, rfl⟩
  have L3 := Lib.hid (L2.out.lay [.bool u, .bool o, .bool e, .int .i64 n, .int .i64 b, .int .i64 m] 53)
  rw [show w2.alloc (.cells (#[.bool u, .bool o, .bool e, .int .i64 n, .int .i64 b, .int .i64 m]) 53) = W3 from hW3.symm] at L3
  obtain ⟨bx, hbx⟩ : ∃ bx, bx = w2.heap.size := ⟨_, rfl⟩
  rw [← hbx] at L3
  rw [← hW3, ← hbx]
  clear hW3 hbx L1 L2 P1
  go_wp2
  go_ret
  exact ⟨rfl, L3.out.bel⟩
set_option maxHeartbeats 1000000 in
theorem col_low (u o e : Bool) (n b m : Int) (h : k.ep < 0) (hp : Hp w w.heap.size s d) (hH : ∀ W, Hp W W.heap.size s d → Calls Tryz.prog 33 #[(.agg #[.slice s.w.a s.w.n s.w.c, .slice s.p.a s.p.n s.p.c, .slice (s.u 0).a (s.u 0).n (s.u 0).c, .slice (s.u 1).a (s.u 1).n (s.u 1).c, .slice (s.u 2).a (s.u 2).n (s.u 2).c, .slice s.c.a s.c.n s.c.c]), .int .i64 a] W (HeadOut W (.agg #[.bool u, .bool o, .bool e, .int .i64 n, .int .i64 b, .int .i64 m]) 0)) : Calls Tryz.prog 34 #[(.agg #[.slice s.w.a s.w.n s.w.c, .slice s.p.a s.p.n s.p.c, .slice (s.u 0).a (s.u 0).n (s.u 0).c, .slice (s.u 1).a (s.u 1).n (s.u 1).c, .slice (s.u 2).a (s.u 2).n (s.u 2).c, .slice s.c.a s.c.n s.c.c]), (.agg #[.int .i64 k.ph, .int .i64 k.ep, .bool k.mj, .slice k.wk.a k.wk.n k.wk.c, .bool k.ov, .int .i64 k.pa, .int .i64 k.pf, .int .i64 k.ps, .int .i64 k.pc, .bool k.me]), .int .i64 a] w fun r w' => r = .returned (.int .i64 0) ∧ Below w.heap.size w w' := by
  have HP := Lib.hid hp
  have HC := Lib.hid hH
  have c1 : decide (k.ep < 0) = true := decide_eq_true h
  clear hp hH h
  go_enter Tryz.func34, Tryz.ntmps34
  go_upto_region 1 with fail
  obtain ⟨W1, hW1⟩ : ∃ W1, W1 = (w.alloc (.cells #[.slice s.w.a s.w.n s.w.c, .slice s.p.a s.p.n s.p.c, .slice (s.u 0).a (s.u 0).n (s.u 0).c, .slice (s.u 1).a (s.u 1).n (s.u 1).c, .slice (s.u 2).a (s.u 2).n (s.u 2).c, .slice s.c.a s.c.n s.c.c] 28)).alloc (.cells #[.int .i64 k.ph, .int .i64 k.ep, .bool k.mj, .slice k.wk.a k.wk.n k.wk.c, .bool k.ov, .int .i64 k.pa, .int .i64 k.pf, .int .i64 k.ps, .int .i64 k.pc, .bool k.me] 30) := ⟨_, rfl⟩
  have hb1 : Below w.heap.size w W1 := by rw [hW1]; exact ((Below.refl _ _).alloc (Nat.le_refl _) _).alloc (by simp) _
  have L1 := Lib.hid ((lq_none w).two (s := s) (k := k) hW1)
  have P1 := Lib.hid (HP.out.next hb1)
  rw [← hW1]
  clear hW1 hb1
  go_upto_region 2 with (first
    | (refine w_load (ldHb (L1.out.bx w.heap.size (hv s) (by simp))) rfl rfl rfl rfl ?_)
    | ((go_at_call 33); (with_reducible refine (HC.out _ P1.out).mono ?_); rintro e9 w2 ⟨rfl, hb9⟩; have L2 := Lib.hid (L1.out.next hb9); clear hb9))
  obtain ⟨W3, hW3⟩ : ∃ W3, W3 = w2.alloc (.cells #[.bool u, .bool o, .bool e, .int .i64 n, .int .i64 b, .int .i64 m] 53) := ⟨_, rfl⟩
  have L3 := Lib.hid (L2.out.lay [.bool u, .bool o, .bool e, .int .i64 n, .int .i64 b, .int .i64 m] 53)
  rw [show w2.alloc (.cells (#[.bool u, .bool o, .bool e, .int .i64 n, .int .i64 b, .int .i64 m]) 53) = W3 from hW3.symm] at L3
  obtain ⟨bx, hbx⟩ : ∃ bx, bx = w2.heap.size := ⟨_, rfl⟩
  rw [← hbx] at L3
  rw [← hW3, ← hbx]
  clear hW3 hbx L1 L2 P1
  have k1 := (L3.out.bx (w.heap.size + 1) (kv k) (by simp)).cel 1 (.int .i64 k.ep) rfl
  go_wp2
  go_ret
  exact ⟨rfl, L3.out.bel⟩
set_option maxHeartbeats 1000000 in
theorem col_high (u o e : Bool) (n b m : Int) (h : 1048576 < k.ep) (hp : Hp w w.heap.size s d) (hH : ∀ W, Hp W W.heap.size s d → Calls Tryz.prog 33 #[(.agg #[.slice s.w.a s.w.n s.w.c, .slice s.p.a s.p.n s.p.c, .slice (s.u 0).a (s.u 0).n (s.u 0).c, .slice (s.u 1).a (s.u 1).n (s.u 1).c, .slice (s.u 2).a (s.u 2).n (s.u 2).c, .slice s.c.a s.c.n s.c.c]), .int .i64 a] W (HeadOut W (.agg #[.bool u, .bool o, .bool e, .int .i64 n, .int .i64 b, .int .i64 m]) 0)) : Calls Tryz.prog 34 #[(.agg #[.slice s.w.a s.w.n s.w.c, .slice s.p.a s.p.n s.p.c, .slice (s.u 0).a (s.u 0).n (s.u 0).c, .slice (s.u 1).a (s.u 1).n (s.u 1).c, .slice (s.u 2).a (s.u 2).n (s.u 2).c, .slice s.c.a s.c.n s.c.c]), (.agg #[.int .i64 k.ph, .int .i64 k.ep, .bool k.mj, .slice k.wk.a k.wk.n k.wk.c, .bool k.ov, .int .i64 k.pa, .int .i64 k.pf, .int .i64 k.ps, .int .i64 k.pc, .bool k.me]), .int .i64 a] w fun r w' => r = .returned (.int .i64 0) ∧ Below w.heap.size w w' := by
  have HP := Lib.hid hp
  have HC := Lib.hid hH
  have c1 : decide (k.ep < 0) = false := decide_eq_false (by omega)
  have c2 : decide (k.ep > 1048576) = true := decide_eq_true h
  have c3 : decide (1048576 < k.ep) = true := c2
  clear hp hH h
  go_enter Tryz.func34, Tryz.ntmps34
  go_upto_region 1 with fail
  obtain ⟨W1, hW1⟩ : ∃ W1, W1 = (w.alloc (.cells #[.slice s.w.a s.w.n s.w.c, .slice s.p.a s.p.n s.p.c, .slice (s.u 0).a (s.u 0).n (s.u 0).c, .slice (s.u 1).a (s.u 1).n (s.u 1).c, .slice (s.u 2).a (s.u 2).n (s.u 2).c, .slice s.c.a s.c.n s.c.c] 28)).alloc (.cells #[.int .i64 k.ph, .int .i64 k.ep, .bool k.mj, .slice k.wk.a k.wk.n k.wk.c, .bool k.ov, .int .i64 k.pa, .int .i64 k.pf, .int .i64 k.ps, .int .i64 k.pc, .bool k.me] 30) := ⟨_, rfl⟩
  have hb1 : Below w.heap.size w W1 := by rw [hW1]; exact ((Below.refl _ _).alloc (Nat.le_refl _) _).alloc (by simp) _
  have L1 := Lib.hid ((lq_none w).two (s := s) (k := k) hW1)
  have P1 := Lib.hid (HP.out.next hb1)
  rw [← hW1]
  clear hW1 hb1
  go_upto_region 2 with (first
    | (refine w_load (ldHb (L1.out.bx w.heap.size (hv s) (by simp))) rfl rfl rfl rfl ?_)
    | ((go_at_call 33); (with_reducible refine (HC.out _ P1.out).mono ?_); rintro e9 w2 ⟨rfl, hb9⟩; have L2 := Lib.hid (L1.out.next hb9); clear hb9))
  obtain ⟨W3, hW3⟩ : ∃ W3, W3 = w2.alloc (.cells #[.bool u, .bool o, .bool e, .int .i64 n, .int .i64 b, .int .i64 m] 53) := ⟨_, rfl⟩
  have L3 := Lib.hid (L2.out.lay [.bool u, .bool o, .bool e, .int .i64 n, .int .i64 b, .int .i64 m] 53)
  rw [show w2.alloc (.cells (#[.bool u, .bool o, .bool e, .int .i64 n, .int .i64 b, .int .i64 m]) 53) = W3 from hW3.symm] at L3
  obtain ⟨bx, hbx⟩ : ∃ bx, bx = w2.heap.size := ⟨_, rfl⟩
  rw [← hbx] at L3
  rw [← hW3, ← hbx]
  clear hW3 hbx L1 L2 P1
  have k1 := (L3.out.bx (w.heap.size + 1) (kv k) (by simp)).cel 1 (.int .i64 k.ep) rfl
  go_wp2
  go_ret
  exact ⟨rfl, L3.out.bel⟩
set_option maxHeartbeats 2000000 in
theorem col_in (o e mj lt : Bool) (n b m : Int) (h0 : 0 ≤ k.ep) (h1 : k.ep ≤ 1048576) (hmj : k.mj = mj) (hlt : decide (m < k.ep) = lt) (hp : Hp w w.heap.size s d) (hH : ∀ W, Hp W W.heap.size s d → Calls Tryz.prog 33 #[(.agg #[.slice s.w.a s.w.n s.w.c, .slice s.p.a s.p.n s.p.c, .slice (s.u 0).a (s.u 0).n (s.u 0).c, .slice (s.u 1).a (s.u 1).n (s.u 1).c, .slice (s.u 2).a (s.u 2).n (s.u 2).c, .slice s.c.a s.c.n s.c.c]), .int .i64 a] W (HeadOut W (.agg #[.bool true, .bool o, .bool e, .int .i64 n, .int .i64 b, .int .i64 m]) 0)) : Calls Tryz.prog 34 #[(.agg #[.slice s.w.a s.w.n s.w.c, .slice s.p.a s.p.n s.p.c, .slice (s.u 0).a (s.u 0).n (s.u 0).c, .slice (s.u 1).a (s.u 1).n (s.u 1).c, .slice (s.u 2).a (s.u 2).n (s.u 2).c, .slice s.c.a s.c.n s.c.c]), (.agg #[.int .i64 k.ph, .int .i64 k.ep, .bool k.mj, .slice k.wk.a k.wk.n k.wk.c, .bool k.ov, .int .i64 k.pa, .int .i64 k.pf, .int .i64 k.ps, .int .i64 k.pc, .bool k.me]), .int .i64 a] w fun r w' => r = .returned (.int .i64 (if (o && !mj) = true then 0 else if lt = true then 1 else if e = true then 3 else 2)) ∧ Below w.heap.size w w' := by
  have HP := Lib.hid hp
  have HC := Lib.hid hH
  have c1 : decide (k.ep < 0) = false := decide_eq_false (by omega)
  have c2 : decide (k.ep > 1048576) = false := decide_eq_false (by omega)
  have c3 : decide (1048576 < k.ep) = false := c2
  have HM := Lib.hid hmj
  have HT := Lib.hid hlt
  clear hp hH h0 h1 hmj hlt
  go_enter Tryz.func34, Tryz.ntmps34
  go_upto_region 1 with fail
  obtain ⟨W1, hW1⟩ : ∃ W1, W1 = (w.alloc (.cells #[.slice s.w.a s.w.n s.w.c, .slice s.p.a s.p.n s.p.c, .slice (s.u 0).a (s.u 0).n (s.u 0).c, .slice (s.u 1).a (s.u 1).n (s.u 1).c, .slice (s.u 2).a (s.u 2).n (s.u 2).c, .slice s.c.a s.c.n s.c.c] 28)).alloc (.cells #[.int .i64 k.ph, .int .i64 k.ep, .bool k.mj, .slice k.wk.a k.wk.n k.wk.c, .bool k.ov, .int .i64 k.pa, .int .i64 k.pf, .int .i64 k.ps, .int .i64 k.pc, .bool k.me] 30) := ⟨_, rfl⟩
  have hb1 : Below w.heap.size w W1 := by rw [hW1]; exact ((Below.refl _ _).alloc (Nat.le_refl _) _).alloc (by simp) _
  have L1 := Lib.hid ((lq_none w).two (s := s) (k := k) hW1)
  have P1 := Lib.hid (HP.out.next hb1)
  rw [← hW1]
  clear hW1 hb1
  go_upto_region 2 with (first
    | (refine w_load (ldHb (L1.out.bx w.heap.size (hv s) (by simp))) rfl rfl rfl rfl ?_)
    | ((go_at_call 33); (with_reducible refine (HC.out _ P1.out).mono ?_); rintro e9 w2 ⟨rfl, hb9⟩; have L2 := Lib.hid (L1.out.next hb9); clear hb9))
  obtain ⟨W3, hW3⟩ : ∃ W3, W3 = w2.alloc (.cells #[.bool true, .bool o, .bool e, .int .i64 n, .int .i64 b, .int .i64 m] 53) := ⟨_, rfl⟩
  have L3 := Lib.hid (L2.out.lay [.bool true, .bool o, .bool e, .int .i64 n, .int .i64 b, .int .i64 m] 53)
  rw [show w2.alloc (.cells (#[.bool true, .bool o, .bool e, .int .i64 n, .int .i64 b, .int .i64 m]) 53) = W3 from hW3.symm] at L3
  obtain ⟨bx, hbx⟩ : ∃ bx, bx = w2.heap.size := ⟨_, rfl⟩
  rw [← hbx] at L3
  rw [← hW3, ← hbx]
  clear hW3 hbx L1 L2 P1
  have k1 := (L3.out.bx (w.heap.size + 1) (kv k) (by simp)).cel 1 (.int .i64 k.ep) rfl
  have k2 := (L3.out.bx (w.heap.size + 1) (kv k) (by simp)).cel 2 (.bool mj) (by rw [← HM.out]; rfl)
  have x1 := (L3.out.bx bx [.bool true, .bool o, .bool e, .int .i64 n, .int .i64 b, .int .i64 m] (by simp)).cel 1 (.bool o) rfl
  have x2 := (L3.out.bx bx [.bool true, .bool o, .bool e, .int .i64 n, .int .i64 b, .int .i64 m] (by simp)).cel 2 (.bool e) rfl
  have x5 := (L3.out.bx bx [.bool true, .bool o, .bool e, .int .i64 n, .int .i64 b, .int .i64 m] (by simp)).cel 5 (.int .i64 m) rfl
  have hlt := HT.out
  cases o <;> cases mj <;> cases lt <;> cases e <;>
  (go_wp2
   go_ret
   exact ⟨rfl, L3.out.bel⟩)
end
theorem rcol_any (s : Hs) (d : Hd_) (k : Sh.Ks) (a : Int) (w : World) (hp : Hp w w.heap.size s d) (hf : Fine s d) : Calls Tryz.prog 34 #[(.agg #[.slice s.w.a s.w.n s.w.c, .slice s.p.a s.p.n s.p.c, .slice (s.u 0).a (s.u 0).n (s.u 0).c, .slice (s.u 1).a (s.u 1).n (s.u 1).c, .slice (s.u 2).a (s.u 2).n (s.u 2).c, .slice s.c.a s.c.n s.c.c]), (.agg #[.int .i64 k.ph, .int .i64 k.ep, .bool k.mj, .slice k.wk.a k.wk.n k.wk.c, .bool k.ov, .int .i64 k.pa, .int .i64 k.pf, .int .i64 k.ps, .int .i64 k.pc, .bool k.me]), .int .i64 a] w fun e w' => e = .returned (.int .i64 (colQ s d k.mj k.ep a)) ∧ Below w.heap.size w w' := by
  have hH := fun W (hW : Hp W W.heap.size s d) => rhead_any s d a W hW hf
  unfold colQ
  by_cases h0 : headE s d a = 0
  · have ho := Sh.obj_of h0
    rw [ho.val, h0] at hH
    by_cases h1 : k.ep < 0
    · rw [if_neg (by omega)]
      exact col_low s d k a w _ _ _ _ _ _ h1 hp hH
    · by_cases h2 : 1048576 < k.ep
      · rw [if_neg (by omega)]
        exact col_high s d k a w _ _ _ _ _ _ h2 hp hH
      · rw [if_pos ⟨h0, by omega, by omega⟩]
        have h := col_in s d k a w _ _ _ _ _ _ _ (by omega) (by omega) rfl rfl hp hH
        rw [show Sh.colW (wd d a) k.mj k.ep = (if (decide (wd d a / 2 % 2 = 1) && !k.mj) = true then 0 else if decide (wd d a / 4294967296 < k.ep) = true then 1 else if decide (wd d a / 4 % 2 = 1) = true then 3 else 2) by
          unfold Sh.colW
          simp only [Bool.and_eq_true, decide_eq_true_eq, Bool.not_eq_true']]
        exact h
  · rw [if_neg (fun hh => h0 hh.1)]
    obtain ⟨u, o, e, n, b, m, hV⟩ := head_form s d a
    rw [hV] at hH
    exact col_err s d k a w _ _ _ _ _ _ _ h0 hp hH
set_option maxHeartbeats 2000000 in
theorem rgrey_core (n : Q2) (w : World) (us : List Int) (g : Int → Bool) (hul : us.length ≤ 512) (hn : Hold w n)
    (hU : ∀ W, Hold W n → Calls Tryz.prog 31 #[(.agg #[.slice n.s.w.a n.s.w.n n.s.w.c, .slice n.s.p.a n.s.p.n n.s.p.c, .slice (n.s.u 0).a (n.s.u 0).n (n.s.u 0).c, .slice (n.s.u 1).a (n.s.u 1).n (n.s.u 1).c, .slice (n.s.u 2).a (n.s.u 2).n (n.s.u 2).c, .slice n.s.c.a n.s.c.n n.s.c.c])] W (Ls.AllOut W us))
    (hF : ∀ y, ∃ c : Int, ((c == 2) = g y) ∧ ∀ W, Hold W n → Calls Tryz.prog 34 #[(.agg #[.slice n.s.w.a n.s.w.n n.s.w.c, .slice n.s.p.a n.s.p.n n.s.p.c, .slice (n.s.u 0).a (n.s.u 0).n (n.s.u 0).c, .slice (n.s.u 1).a (n.s.u 1).n (n.s.u 1).c, .slice (n.s.u 2).a (n.s.u 2).n (n.s.u 2).c, .slice n.s.c.a n.s.c.n n.s.c.c]), (.agg #[.int .i64 n.k.ph, .int .i64 n.k.ep, .bool n.k.mj, .slice n.k.wk.a n.k.wk.n n.k.wk.c, .bool n.k.ov, .int .i64 n.k.pa, .int .i64 n.k.pf, .int .i64 n.k.ps, .int .i64 n.k.pc, .bool n.k.me]), .int .i64 y] W fun e w' => e = .returned (.int .i64 c) ∧ Below W.heap.size W w') :
    Calls Tryz.prog 35 #[(.agg #[.slice n.s.w.a n.s.w.n n.s.w.c, .slice n.s.p.a n.s.p.n n.s.p.c, .slice (n.s.u 0).a (n.s.u 0).n (n.s.u 0).c, .slice (n.s.u 1).a (n.s.u 1).n (n.s.u 1).c, .slice (n.s.u 2).a (n.s.u 2).n (n.s.u 2).c, .slice n.s.c.a n.s.c.n n.s.c.c]), (.agg #[.int .i64 n.k.ph, .int .i64 n.k.ep, .bool n.k.mj, .slice n.k.wk.a n.k.wk.n n.k.wk.c, .bool n.k.ov, .int .i64 n.k.pa, .int .i64 n.k.pf, .int .i64 n.k.ps, .int .i64 n.k.pc, .bool n.k.me])] w (Ls.AllOut w (us.filter g)) := by
  have HN0 := Lib.hid hn
  have HU := Lib.hid hU
  have HF := Lib.hid hF
  obtain ⟨q0, hq0⟩ : ∃ q, us.length = q := ⟨_, rfl⟩
  rw [hq0] at hul
  have HN := Lib.hid hq0
  clear hn hU hF hq0
  go_enter Tryz.func35, Tryz.ntmps35
  go_upto_region 1 with fail
  obtain ⟨W1, hW1⟩ : ∃ W1, W1 = ((w.alloc (.cells #[.slice n.s.w.a n.s.w.n n.s.w.c, .slice n.s.p.a n.s.p.n n.s.p.c, .slice (n.s.u 0).a (n.s.u 0).n (n.s.u 0).c, .slice (n.s.u 1).a (n.s.u 1).n (n.s.u 1).c, .slice (n.s.u 2).a (n.s.u 2).n (n.s.u 2).c, .slice n.s.c.a n.s.c.n n.s.c.c] 28)).alloc (.cells #[.int .i64 n.k.ph, .int .i64 n.k.ep, .bool n.k.mj, .slice n.k.wk.a n.k.wk.n n.k.wk.c, .bool n.k.ov, .int .i64 n.k.pa, .int .i64 n.k.pf, .int .i64 n.k.ps, .int .i64 n.k.pc, .bool n.k.me] 30)) := ⟨_, rfl⟩
  have S1 : Hid (Wn 2 w W1 (p4 w.heap.size (w.heap.size + 1) (w.heap.size + 2) (w.heap.size + 3)) (c4 (hv n.s) (kv n.k) [] []) [n]) := Lib.hid (by
    rw [hW1]
    exact (wn_of (c := (c4 (hv n.s) (kv n.k) [] [])) (((lay_none w).add (hv n.s) 28).add (kv n.k) 30) (by decide) (all2 ⟨rfl, rfl⟩)).old HN0.out)
  rw [← hW1]
  clear hW1
  go_upto_region 3 with (first
    | (refine w_load (ldHb (show Box _ (w.heap.size) (hv n.s) from S1.out.box 0 (by decide))) rfl rfl rfl rfl ?_)
    | ((go_at_call 31); (with_reducible refine (HU.out _ (S1.out.at n (by simp))).mono ?_); rintro e9 w2 ⟨⟨va, vn, vc⟩, rfl, ho, hb2⟩; have S2 := Lib.hid (S1.out.next hb2); have OH := Lib.hid ho; clear ho hb2))
  obtain rfl : vn = q0 := by have h1 := OH.out.1; have h2 := HN.out; simp only [List.length_map] at h1; omega
  have R2 := Lib.hid (Sh.row_of (v := ⟨va, vn, vc⟩) OH.out)
  clear S1 HU
  go_wp2
  go_loopw [6, 7] (fun o i wr => ∃ (t : Ls.Sl) (q : Nat), q ≤ vn ∧ o = .slice t.a t.n t.c ∧ i = .int .i64 q ∧ Hid (Ls.Alling w2 wr t ((us.take q).filter g))) (fun _ i _ => vn - (intOf i).toNat)
  case atStart => exact ⟨⟨none, 0, 0⟩, 0, by omega, rfl, rfl, Lib.hid ⟨World.ownsRow_nil _ _ _ _, Below.refl _ _⟩⟩
  case round =>
    obtain ⟨t, q, hq, rfl, rfl, HA⟩ := hrel
    have LA := Lib.hid (S2.out.next HA.out.bel)
    by_cases hlt : q < vn
    · have d0 : decide ((q : Int) < vn) = true := decide_eq_true (by omega)
      have HQ : Hid (q < us.length) := Lib.hid (by have := HN.out; omega)
      have hR := Row.below R2.out HA.out.bel
      obtain ⟨b, off, rfl, hbl', hcell⟩ := hR.2 (by omega)
      have hq1 := hcell q hlt
      have hbl : b < wr.heap.size := by have := HA.out.bel.size; omega
      obtain ⟨y, hy⟩ : ∃ y, y = us.getD q 0 := ⟨_, rfl⟩
      rw [← hy] at hq1
      have HY := Lib.hid hy
      have htn : t.n + 1 ≤ 4000000 := by
        have h1 := HA.out.len
        have h2 : ((us.take q).filter g).length ≤ (us.take q).length := List.length_filter_le _ _
        rw [List.length_take] at h2
        omega
      obtain ⟨c, hc, hf⟩ := HF.out y
      have HC := Lib.hid hf
      obtain ⟨gy, hg⟩ : ∃ gy, gy = g y := ⟨_, rfl⟩
      have e1 : (c == 2) = gy := hc.trans hg.symm
      have e2 : decide (c = 2) = gy := e1
      have HG := Lib.hid hg
      clear hcell hy hbl' hR hf hc hg
      have DN := Lib.hid hbl
      have DQ := Lib.hid hq1
      clear hq1
      cases gy
      · have HT := Lib.hid (Sh.take_no (p := g) HQ.out (by rw [← HY.out]; exact HG.out.symm))
        go_upto_region 6 with fail
        refine Sh.region_gen fun a0 ha0 => ?_
        have G2 : a0.tmps[2]? = some (.pointer (some ⟨w.heap.size, 0, none⟩)) := by rw [ha0]; rfl
        have G3 : a0.tmps[3]? = some (.pointer (some ⟨w.heap.size + 1, 0, none⟩)) := by rw [ha0]; rfl
        have G5 : a0.tmps[5]? = some (.slice (some ⟨b, off, none⟩) vn vc) := by rw [ha0]; rfl
        have G7 : a0.tmps[7]? = some (.int .i64 (q : Int)) := by rw [ha0]; rfl
        have TZ : a0.tmps.size = 32 := by rw [ha0]; rfl
        have HA := Lib.hid ha0
        clear ha0
        refine region_planK (by kernel_rfl) (by kernel_rfl) (by rw [TZ]; kernel_rfl) (fun (x : Unit) (i : Nat) => (match i with | 0 => (.agg #[.slice n.s.w.a n.s.w.n n.s.w.c, .slice n.s.p.a n.s.p.n n.s.p.c, .slice (n.s.u 0).a (n.s.u 0).n (n.s.u 0).c, .slice (n.s.u 1).a (n.s.u 1).n (n.s.u 1).c, .slice (n.s.u 2).a (n.s.u 2).n (n.s.u 2).c, .slice n.s.c.a n.s.c.n n.s.c.c]) | 1 => (.agg #[.int .i64 n.k.ph, .int .i64 n.k.ep, .bool n.k.mj, .slice n.k.wk.a n.k.wk.n n.k.wk.c, .bool n.k.ov, .int .i64 n.k.pa, .int .i64 n.k.pf, .int .i64 n.k.ps, .int .i64 n.k.pc, .bool n.k.me]) | 2 => .slice (some ⟨b, off, none⟩) vn vc | 3 => .int .i64 (q : Int) | 4 => .pointer (some ⟨b, off + q, none⟩) | 5 => .int .i64 y | 6 => .int .i64 c | 7 => .bool false | _ => undef : Value)) (fun _ => false) ?zeroN (fun _ _ W => Below wr.heap.size wr W) () ?startN ?wantN ?skipN ?stepN ?doneN
        case zeroN => exact fun _ _ h => by cases h
        case startN => exact ⟨rfl, rfl, rfl, Nat.le_refl _, fun _ _ => rfl⟩
        case skipN => exact fun i l x W h _ => by cases h
        case wantN =>
          rintro i o9 l a9 x ho hP haft
          have hi : i < 8 := (Array.getElem?_eq_some_iff.1 ho).1
          rcases (show i = 0 ∨ i = 1 ∨ i = 2 ∨ i = 3 ∨ i = 4 ∨ i = 5 ∨ i = 6 ∨ i = 7 by omega) with rfl | rfl | rfl | rfl | rfl | rfl | rfl | rfl
          · obtain rfl := Option.some.inj ho
            rfl
          · obtain rfl := Option.some.inj ho
            rfl
          · obtain rfl := Option.some.inj ho
            rfl
          · obtain rfl := Option.some.inj ho
            rfl
          · obtain rfl := Option.some.inj ho
            rfl
          · obtain rfl := Option.some.inj ho
            rfl
          · obtain rfl := Option.some.inj ho
            rfl
          · obtain rfl := Option.some.inj ho
            rfl
        case stepN =>
          rintro i o9 l a9 x W9 ho hP hkp hcd hI hl hsk haft K hK
          have hi : i < 8 := (Array.getElem?_eq_some_iff.1 ho).1
          rcases (show i = 0 ∨ i = 1 ∨ i = 2 ∨ i = 3 ∨ i = 4 ∨ i = 5 ∨ i = 6 ∨ i = 7 by omega) with rfl | rfl | rfl | rfl | rfl | rfl | rfl | rfl
          · clear hsk
            obtain rfl := Option.some.inj ho
            have q2 := (hP.keep (j := 2) (by kernel_rfl)).trans G2
            exact Mu.p_load rfl (Mu.ev q2) (ldHb (show Box W9 w.heap.size (hv n.s) from (LA.out.next hI).box 0 (by decide))) (hK () _ (fun _ _ => rfl) hI)
          · clear hsk
            obtain rfl := Option.some.inj ho
            have q3 := (hP.keep (j := 3) (by kernel_rfl)).trans G3
            exact Mu.p_load rfl (Mu.ev q3) (ldKb (show Box W9 (w.heap.size + 1) (kv n.k) from (LA.out.next hI).box 1 (by decide))) (hK () _ (fun _ _ => rfl) hI)
          · clear hsk
            obtain rfl := Option.some.inj ho
            have q5 := (hP.keep (j := 5) (by kernel_rfl)).trans G5
            go_simp
            exact hK () _ (fun _ _ => rfl) hI
          · clear hsk
            obtain rfl := Option.some.inj ho
            have q7 := (hP.keep (j := 7) (by kernel_rfl)).trans G7
            go_simp
            exact hK () _ (fun _ _ => rfl) hI
          · clear hsk
            obtain rfl := Option.some.inj ho
            have e2 := hP.got 2 _ 18 rfl (haft ⟨2, .data⟩ (by simp) rfl) rfl
            have e3 := hP.got 3 _ 19 rfl (haft ⟨3, .data⟩ (by simp) rfl) rfl
            try dsimp only at e2 e3
            go_simp
            exact hK () _ (fun _ _ => rfl) hI
          · clear hsk
            obtain rfl := Option.some.inj ho
            have e4 := hP.got 4 _ 20 rfl (haft ⟨4, .data⟩ (by simp) rfl) rfl
            try dsimp only at e4
            have c9 := (Below.cell (p := ⟨b, off + q, none⟩) hI DN.out).trans DQ.out
            have l9 : b < W9.heap.size := Nat.lt_of_lt_of_le DN.out hI.size
            go_simp
            exact hK () _ (fun _ _ => rfl) hI
          · clear hsk
            obtain rfl := Option.some.inj ho
            have e0 := hP.got 0 _ 16 rfl (haft ⟨0, .data⟩ (by simp) rfl) rfl
            have e1 := hP.got 1 _ 17 rfl (haft ⟨1, .data⟩ (by simp) rfl) rfl
            have e5 := hP.got 5 _ 21 rfl (haft ⟨5, .data⟩ (by simp) rfl) rfl
            try dsimp only at e0 e1 e5
            go_simp
            refine (HC.out W9 ((LA.out.next hI).at n (by simp))).mono ?_
            rintro e9 w9 ⟨rfl, hb9⟩
            exact hK () _ (fun _ _ => rfl) (hI.trans (hb9.mono hI.size))
          · clear hsk
            obtain rfl := Option.some.inj ho
            have e6 := hP.got 6 _ 22 rfl (haft ⟨6, .data⟩ (by simp) rfl) rfl
            try dsimp only at e6
            go_simp
            exact hK () _ (fun _ _ => rfl) hI
        case doneN =>
          rintro l a9 x W9 hP hI hall
          have R9 := Lib.hid hI
          obtain rfl := pl_full hP (by rw [TZ]; kernel_rfl) hall [some 16, some 17, some 18, some 19, some 20, some 21, some 22, some 23] (by rfl)
          clear hP hI hall TZ G2 G3 G5 G7
          rw [HA.out]
          simp only [putD, Act.put, List.setIfInBounds_toArray, List.set_cons_succ, List.set_cons_zero]
          clear HA
          have HB := Lib.hid (Sh.all_step HA.out R9.out)
          rw [← HT.out] at HB
          go_wp2
          go_roundw
          case rel => exact ⟨t, q + 1, by omega, rfl, by go_num, HB⟩
          case measure => simp [intOf]; omega
      · have HT := Lib.hid (Sh.take_yes (p := g) HQ.out (by rw [← HY.out]; exact HG.out.symm))
        rw [← HY.out] at HT
        go_upto_region 6 with fail
        refine Sh.region_gen fun a0 ha0 => ?_
        have G2 : a0.tmps[2]? = some (.pointer (some ⟨w.heap.size, 0, none⟩)) := by rw [ha0]; rfl
        have G3 : a0.tmps[3]? = some (.pointer (some ⟨w.heap.size + 1, 0, none⟩)) := by rw [ha0]; rfl
        have G5 : a0.tmps[5]? = some (.slice (some ⟨b, off, none⟩) vn vc) := by rw [ha0]; rfl
        have G7 : a0.tmps[7]? = some (.int .i64 (q : Int)) := by rw [ha0]; rfl
        have TZ : a0.tmps.size = 32 := by rw [ha0]; rfl
        have HA := Lib.hid ha0
        clear ha0
        refine region_planK (by kernel_rfl) (by kernel_rfl) (by rw [TZ]; kernel_rfl) (fun (x : Unit) (i : Nat) => (match i with | 0 => (.agg #[.slice n.s.w.a n.s.w.n n.s.w.c, .slice n.s.p.a n.s.p.n n.s.p.c, .slice (n.s.u 0).a (n.s.u 0).n (n.s.u 0).c, .slice (n.s.u 1).a (n.s.u 1).n (n.s.u 1).c, .slice (n.s.u 2).a (n.s.u 2).n (n.s.u 2).c, .slice n.s.c.a n.s.c.n n.s.c.c]) | 1 => (.agg #[.int .i64 n.k.ph, .int .i64 n.k.ep, .bool n.k.mj, .slice n.k.wk.a n.k.wk.n n.k.wk.c, .bool n.k.ov, .int .i64 n.k.pa, .int .i64 n.k.pf, .int .i64 n.k.ps, .int .i64 n.k.pc, .bool n.k.me]) | 2 => .slice (some ⟨b, off, none⟩) vn vc | 3 => .int .i64 (q : Int) | 4 => .pointer (some ⟨b, off + q, none⟩) | 5 => .int .i64 y | 6 => .int .i64 c | 7 => .bool true | _ => undef : Value)) (fun _ => false) ?zeroY (fun _ _ W => Below wr.heap.size wr W) () ?startY ?wantY ?skipY ?stepY ?doneY
        case zeroY => exact fun _ _ h => by cases h
        case startY => exact ⟨rfl, rfl, rfl, Nat.le_refl _, fun _ _ => rfl⟩
        case skipY => exact fun i l x W h _ => by cases h
        case wantY =>
          rintro i o9 l a9 x ho hP haft
          have hi : i < 8 := (Array.getElem?_eq_some_iff.1 ho).1
          rcases (show i = 0 ∨ i = 1 ∨ i = 2 ∨ i = 3 ∨ i = 4 ∨ i = 5 ∨ i = 6 ∨ i = 7 by omega) with rfl | rfl | rfl | rfl | rfl | rfl | rfl | rfl
          · obtain rfl := Option.some.inj ho
            rfl
          · obtain rfl := Option.some.inj ho
            rfl
          · obtain rfl := Option.some.inj ho
            rfl
          · obtain rfl := Option.some.inj ho
            rfl
          · obtain rfl := Option.some.inj ho
            rfl
          · obtain rfl := Option.some.inj ho
            rfl
          · obtain rfl := Option.some.inj ho
            rfl
          · obtain rfl := Option.some.inj ho
            rfl
        case stepY =>
          rintro i o9 l a9 x W9 ho hP hkp hcd hI hl hsk haft K hK
          have hi : i < 8 := (Array.getElem?_eq_some_iff.1 ho).1
          rcases (show i = 0 ∨ i = 1 ∨ i = 2 ∨ i = 3 ∨ i = 4 ∨ i = 5 ∨ i = 6 ∨ i = 7 by omega) with rfl | rfl | rfl | rfl | rfl | rfl | rfl | rfl
          · clear hsk
            obtain rfl := Option.some.inj ho
            have q2 := (hP.keep (j := 2) (by kernel_rfl)).trans G2
            exact Mu.p_load rfl (Mu.ev q2) (ldHb (show Box W9 w.heap.size (hv n.s) from (LA.out.next hI).box 0 (by decide))) (hK () _ (fun _ _ => rfl) hI)
          · clear hsk
            obtain rfl := Option.some.inj ho
            have q3 := (hP.keep (j := 3) (by kernel_rfl)).trans G3
            exact Mu.p_load rfl (Mu.ev q3) (ldKb (show Box W9 (w.heap.size + 1) (kv n.k) from (LA.out.next hI).box 1 (by decide))) (hK () _ (fun _ _ => rfl) hI)
          · clear hsk
            obtain rfl := Option.some.inj ho
            have q5 := (hP.keep (j := 5) (by kernel_rfl)).trans G5
            go_simp
            exact hK () _ (fun _ _ => rfl) hI
          · clear hsk
            obtain rfl := Option.some.inj ho
            have q7 := (hP.keep (j := 7) (by kernel_rfl)).trans G7
            go_simp
            exact hK () _ (fun _ _ => rfl) hI
          · clear hsk
            obtain rfl := Option.some.inj ho
            have e2 := hP.got 2 _ 18 rfl (haft ⟨2, .data⟩ (by simp) rfl) rfl
            have e3 := hP.got 3 _ 19 rfl (haft ⟨3, .data⟩ (by simp) rfl) rfl
            try dsimp only at e2 e3
            go_simp
            exact hK () _ (fun _ _ => rfl) hI
          · clear hsk
            obtain rfl := Option.some.inj ho
            have e4 := hP.got 4 _ 20 rfl (haft ⟨4, .data⟩ (by simp) rfl) rfl
            try dsimp only at e4
            have c9 := (Below.cell (p := ⟨b, off + q, none⟩) hI DN.out).trans DQ.out
            have l9 : b < W9.heap.size := Nat.lt_of_lt_of_le DN.out hI.size
            go_simp
            exact hK () _ (fun _ _ => rfl) hI
          · clear hsk
            obtain rfl := Option.some.inj ho
            have e0 := hP.got 0 _ 16 rfl (haft ⟨0, .data⟩ (by simp) rfl) rfl
            have e1 := hP.got 1 _ 17 rfl (haft ⟨1, .data⟩ (by simp) rfl) rfl
            have e5 := hP.got 5 _ 21 rfl (haft ⟨5, .data⟩ (by simp) rfl) rfl
            try dsimp only at e0 e1 e5
            go_simp
            refine (HC.out W9 ((LA.out.next hI).at n (by simp))).mono ?_
            rintro e9 w9 ⟨rfl, hb9⟩
            exact hK () _ (fun _ _ => rfl) (hI.trans (hb9.mono hI.size))
          · clear hsk
            obtain rfl := Option.some.inj ho
            have e6 := hP.got 6 _ 22 rfl (haft ⟨6, .data⟩ (by simp) rfl) rfl
            try dsimp only at e6
            go_simp
            exact hK () _ (fun _ _ => rfl) hI
        case doneY =>
          rintro l a9 x W9 hP hI hall
          have R9 := Lib.hid hI
          obtain rfl := pl_full hP (by rw [TZ]; kernel_rfl) hall [some 16, some 17, some 18, some 19, some 20, some 21, some 22, some 23] (by rfl)
          clear hP hI hall TZ G2 G3 G5 G7
          rw [HA.out]
          simp only [putD, Act.put, List.setIfInBounds_toArray, List.set_cons_succ, List.set_cons_zero]
          clear HA
          have HB := Lib.hid (Sh.all_step HA.out R9.out)
          have c9 := (Below.cell (p := ⟨b, off + q, none⟩) R9.out DN.out).trans DQ.out
          have l9 : b < W9.heap.size := Nat.lt_of_lt_of_le DN.out R9.out.size
          go_wp2_with (at_builtin; refine Ls.list_cat rfl _ _ rfl rfl rfl (HB.out.alloc _).own (Ls.row_lit1 _ _) (HB.out.alloc _).bel.size htn ?_)
          intro p' cp' w6 hcat
          have hA6 := (HB.out.alloc _).cat hcat
          rw [← HT.out] at hA6
          have H6 := Lib.hid hA6
          clear hcat hA6
          go_wp2
          go_roundw
          case rel => exact ⟨⟨p', t.n + 1, cp'⟩, q + 1, by omega, rfl, by go_num, H6⟩
          case measure => simp [intOf]; omega
    · obtain rfl : q = vn := by omega
      have d0 : decide ((q : Int) < q) = false := by simp
      have HE := Lib.hid (And.intro (own_less' HA.out.own S2.out.bel.size) LA.out.bel)
      have e : us.take q = us := List.take_of_length_le (by have := HN.out; omega)
      rw [e] at HE
      clear e
      go_wp2
      go_ret
      exact ⟨t, rfl, HE.out.1, HE.out.2⟩
theorem rused_any (n : Q2) (w : World) (hn : Hold w n) (hf : Fine n.s n.d) : Calls Tryz.prog 31 #[(.agg #[.slice n.s.w.a n.s.w.n n.s.w.c, .slice n.s.p.a n.s.p.n n.s.p.c, .slice (n.s.u 0).a (n.s.u 0).n (n.s.u 0).c, .slice (n.s.u 1).a (n.s.u 1).n (n.s.u 1).c, .slice (n.s.u 2).a (n.s.u 2).n (n.s.u 2).c, .slice n.s.c.a n.s.c.n n.s.c.c])] w (Ls.AllOut w (usedL n.s n.d)) := Go.Proofs.YtccjelpfmkbmiaaGreatDoor.rused_any n.s n.d w hn.h hf
theorem rgrey_any (n : Q2) (w : World) (hn : Hold w n) (hf : Fine n.s n.d) : Calls Tryz.prog 35 #[(.agg #[.slice n.s.w.a n.s.w.n n.s.w.c, .slice n.s.p.a n.s.p.n n.s.p.c, .slice (n.s.u 0).a (n.s.u 0).n (n.s.u 0).c, .slice (n.s.u 1).a (n.s.u 1).n (n.s.u 1).c, .slice (n.s.u 2).a (n.s.u 2).n (n.s.u 2).c, .slice n.s.c.a n.s.c.n n.s.c.c]), (.agg #[.int .i64 n.k.ph, .int .i64 n.k.ep, .bool n.k.mj, .slice n.k.wk.a n.k.wk.n n.k.wk.c, .bool n.k.ov, .int .i64 n.k.pa, .int .i64 n.k.pf, .int .i64 n.k.ps, .int .i64 n.k.pc, .bool n.k.me])] w (Ls.AllOut w (Sh.greyL n.s n.d n.k.mj n.k.ep)) := by
  refine rgrey_core n w (usedL n.s n.d) (fun y => Sh.isC n.s n.d n.k.mj n.k.ep y 2) (Nat.le_trans (used_len n.s n.d) (allS_len n.d.f n.s.p.n)) hn (fun W h => rused_any n W h hf) fun y => ⟨colQ n.s n.d n.k.mj n.k.ep y, ?_, fun W h => rcol_any n.s n.d n.k y W h.h hf⟩
  have h := @col_is n.s n.d n.k.mj n.k.ep y 2 (by decide)
  rw [Bool.eq_iff_iff, beq_iff_eq]
  exact h
end Go.Proofs.YtccjelpfmkbmiaaGreatDoor.Tr
