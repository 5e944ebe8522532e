/-
  Package regs: Object; the reference's too.
-/
import Derived.Test.YtfjhhfncapmnmaaGreatDoorHpRE
import Derived.Test.YtfjhhfncapmnmaaGreatDoorHpRF
import Derived.Deep.QuietTactic
import Derived.BigQuiet
namespace Go.Proofs.YtfjhhfncapmnmaaGreatDoor.Rt
open Go.Proofs.YtfjhhfncapmnmaaGreatDoor
open Go.RowKit
set_option maxRecDepth 100000

/-- How many fields a head tells. -/
def cellN : Value → Int
  | .agg xs => match xs.getD 3 (Value.bool false) with
    | Value.int _ n => n
    | _ => 0
  | _ => 0
/-- Where the object begins, how many fields it has, or the error: of an address that a register has. -/
def objA (s : Hs) (d : Hd_) (a : Int) : Int := if headE s d a = 0 then a else 0
def objN (s : Hs) (d : Hd_) (a : Int) : Int := if headE s d a = 0 then cellN (headV s d a) else 0
def objE (s : Hs) (d : Hd_) (a : Int) : Int := if headE s d a = 0 then 0 else 5
/-- .. of a register, or of none. -/
def ofA (s : Hs) (d : Hd_) (t : Ts) (r : Int) : Int := if inReg r = true then objA s d (getV t r) else 0
def ofN (s : Hs) (d : Hd_) (t : Ts) (r : Int) : Int := if inReg r = true then objN s d (getV t r) else 0
def ofE (s : Hs) (d : Hd_) (t : Ts) (r : Int) : Int := if inReg r = true then objE s d (getV t r) else 1
def Three (w : World) (a n x : Int) (e : Ending) (w' : World) : Prop := e = .returned (.tuple #[.int .i64 a, .int .i64 n, .int .i64 x]) ∧ Below w.heap.size w w'
set_option maxHeartbeats 2000000 in
theorem pobj_no (s : Hs) (t : Ts) (r : Int) (hr : inReg r = false) (w : World) : Calls Tryz.prog 25 #[(.agg #[.slice s.w.a s.w.n s.w.c, .slice s.p.a s.p.n s.p.c, .slice (s.u 0).a (s.u 0).n (s.u 0).c, .slice (s.u 1).a (s.u 1).n (s.u 1).c, .slice (s.u 2).a (s.u 2).n (s.u 2).c, .slice s.c.a s.c.n s.c.c]), (.agg #[.bool t.lv, .int .i64 (t.r 0), .int .i64 (t.r 1), .int .i64 (t.r 2), .int .i64 (t.r 3), .slice (t.u 0).a (t.u 0).n (t.u 0).c, .slice (t.u 1).a (t.u 1).n (t.u 1).c, .slice (t.u 2).a (t.u 2).n (t.u 2).c, .int .i64 t.ep, .int .i64 t.sg, .int .i64 t.rt, .slice t.o.a t.o.n t.o.c, .int .i64 t.pc, .int .i64 t.x, .int .i64 t.y]), .int .i64 r] w (Three w 0 0 1) := by
  have C1 := Lib.hid (fun W => get_any t r W)
  rw [show getV t r = 0 from if_neg (by rw [hr]; decide), show getE r = 1 from if_neg (by rw [hr]; decide)] at C1
  clear hr
  go_enter Tryz.func25, Tryz.ntmps25
  go_wp2_with fail
  obtain ⟨W1, hW1⟩ : ∃ W1, W1 = (w.alloc (.cells #[.slice s.w.a s.w.n s.w.c, .slice s.p.a s.p.n s.p.c, .slice (s.u 0).a (s.u 0).n (s.u 0).c, .slice (s.u 1).a (s.u 1).n (s.u 1).c, .slice (s.u 2).a (s.u 2).n (s.u 2).c, .slice s.c.a s.c.n s.c.c] 28)).alloc (.cells #[.bool t.lv, .int .i64 (t.r 0), .int .i64 (t.r 1), .int .i64 (t.r 2), .int .i64 (t.r 3), .slice (t.u 0).a (t.u 0).n (t.u 0).c, .slice (t.u 1).a (t.u 1).n (t.u 1).c, .slice (t.u 2).a (t.u 2).n (t.u 2).c, .int .i64 t.ep, .int .i64 t.sg, .int .i64 t.rt, .slice t.o.a t.o.n t.o.c, .int .i64 t.pc, .int .i64 t.x, .int .i64 t.y] 34) := ⟨_, rfl⟩
  have B1 : Hid (Below w.heap.size w W1) := Lib.hid (by rw [hW1]; exact ((Below.refl _ _).alloc (Nat.le_refl _) _).alloc (by simp) _)
  rw [← hW1]
  clear hW1
  refine (C1.out W1).mono ?_
  rintro e w1 ⟨rfl, hb1⟩
  go_wp2
  go_ret3
  exact ⟨rfl, B1.out.trans (hb1.mono B1.out.size)⟩
theorem pbox (w W : World) (s : Hs) (t : Ts) (ty ty' : TypeId) (h : W = (w.alloc (.cells #[.slice s.w.a s.w.n s.w.c, .slice s.p.a s.p.n s.p.c, .slice (s.u 0).a (s.u 0).n (s.u 0).c, .slice (s.u 1).a (s.u 1).n (s.u 1).c, .slice (s.u 2).a (s.u 2).n (s.u 2).c, .slice s.c.a s.c.n s.c.c] ty)).alloc (.cells #[.bool t.lv, .int .i64 (t.r 0), .int .i64 (t.r 1), .int .i64 (t.r 2), .int .i64 (t.r 3), .slice (t.u 0).a (t.u 0).n (t.u 0).c, .slice (t.u 1).a (t.u 1).n (t.u 1).c, .slice (t.u 2).a (t.u 2).n (t.u 2).c, .int .i64 t.ep, .int .i64 t.sg, .int .i64 t.rt, .slice t.o.a t.o.n t.o.c, .int .i64 t.pc, .int .i64 t.x, .int .i64 t.y] ty')) : Below w.heap.size w W ∧ HBox W w.heap.size s ∧ Box W (w.heap.size + 1) (tv t) := by
  have b2 : Below (w.alloc (.cells #[.slice s.w.a s.w.n s.w.c, .slice s.p.a s.p.n s.p.c, .slice (s.u 0).a (s.u 0).n (s.u 0).c, .slice (s.u 1).a (s.u 1).n (s.u 1).c, .slice (s.u 2).a (s.u 2).n (s.u 2).c, .slice s.c.a s.c.n s.c.c] ty)).heap.size (w.alloc (.cells #[.slice s.w.a s.w.n s.w.c, .slice s.p.a s.p.n s.p.c, .slice (s.u 0).a (s.u 0).n (s.u 0).c, .slice (s.u 1).a (s.u 1).n (s.u 1).c, .slice (s.u 2).a (s.u 2).n (s.u 2).c, .slice s.c.a s.c.n s.c.c] ty)) W := by rw [h]; exact (Below.refl _ _).alloc (Nat.le_refl _) _
  refine ⟨by rw [h]; exact ((Below.refl _ _).alloc (Nat.le_refl _) _).alloc (by simp) _, (HBox.new w s ty).next b2, ?_⟩
  have := Box.new (w.alloc (.cells #[.slice s.w.a s.w.n s.w.c, .slice s.p.a s.p.n s.p.c, .slice (s.u 0).a (s.u 0).n (s.u 0).c, .slice (s.u 1).a (s.u 1).n (s.u 1).c, .slice (s.u 2).a (s.u 2).n (s.u 2).c, .slice s.c.a s.c.n s.c.c] ty)) (tv t) ty'
  rw [World.size_alloc] at this
  rw [h]
  exact this
set_option maxHeartbeats 4000000 in
theorem pobj_yes (s : Hs) (d : Hd_) (t : Ts) (r a : Int) (hr : inReg r = true) (ha : getV t r = a) (w : World) (hp : Hp w w.heap.size s d) (hz : Cl.Sz w) (hf : Fine s d) : Calls Tryz.prog 25 #[(.agg #[.slice s.w.a s.w.n s.w.c, .slice s.p.a s.p.n s.p.c, .slice (s.u 0).a (s.u 0).n (s.u 0).c, .slice (s.u 1).a (s.u 1).n (s.u 1).c, .slice (s.u 2).a (s.u 2).n (s.u 2).c, .slice s.c.a s.c.n s.c.c]), (.agg #[.bool t.lv, .int .i64 (t.r 0), .int .i64 (t.r 1), .int .i64 (t.r 2), .int .i64 (t.r 3), .slice (t.u 0).a (t.u 0).n (t.u 0).c, .slice (t.u 1).a (t.u 1).n (t.u 1).c, .slice (t.u 2).a (t.u 2).n (t.u 2).c, .int .i64 t.ep, .int .i64 t.sg, .int .i64 t.rt, .slice t.o.a t.o.n t.o.c, .int .i64 t.pc, .int .i64 t.x, .int .i64 t.y]), .int .i64 r] w (Three w (objA s d a) (objN s d a) (objE s d a)) := by
  have C1 := Lib.hid (fun W => get_any t r W)
  rw [ha, show getE r = 0 from if_pos hr] at C1
  have hz0 := hz.pos
  have C2 := Lib.hid (fun W (hb : Below w.heap.size w W) => phead_any s d a W (hp.next hb) (hz.over hb hz0) hf)
  obtain ⟨u, o, e', n, b, m, hV⟩ := head_form s d a
  rw [hV] at C2
  have hN : cellN (headV s d a) = n := by rw [hV]; rfl
  obtain ⟨x, hx⟩ : ∃ x, headE s d a = x := ⟨_, rfl⟩
  rw [hx] at C2
  have HV : Hid (objA s d a = (if x = 0 then a else 0) ∧ objN s d a = (if x = 0 then n else 0) ∧ objE s d a = (if x = 0 then 0 else 5)) := Lib.hid ⟨by unfold objA; rw [hx], by unfold objN; rw [hx, hN], by unfold objE; rw [hx]⟩
  rw [HV.out.1, HV.out.2.1, HV.out.2.2]
  clear hr ha hp hz hf hV hN hx HV
  by_cases h0 : x = 0
  · rw [if_pos h0, if_pos h0, if_pos h0]
    subst h0
    go_enter Tryz.func25, Tryz.ntmps25
    go_wp2_with fail
    obtain ⟨W1, hW1⟩ : ∃ W1, W1 = (w.alloc (.cells #[.slice s.w.a s.w.n s.w.c, .slice s.p.a s.p.n s.p.c, .slice (s.u 0).a (s.u 0).n (s.u 0).c, .slice (s.u 1).a (s.u 1).n (s.u 1).c, .slice (s.u 2).a (s.u 2).n (s.u 2).c, .slice s.c.a s.c.n s.c.c] 28)).alloc (.cells #[.bool t.lv, .int .i64 (t.r 0), .int .i64 (t.r 1), .int .i64 (t.r 2), .int .i64 (t.r 3), .slice (t.u 0).a (t.u 0).n (t.u 0).c, .slice (t.u 1).a (t.u 1).n (t.u 1).c, .slice (t.u 2).a (t.u 2).n (t.u 2).c, .int .i64 t.ep, .int .i64 t.sg, .int .i64 t.rt, .slice t.o.a t.o.n t.o.c, .int .i64 t.pc, .int .i64 t.x, .int .i64 t.y] 34) := ⟨_, rfl⟩
    have B1 := Lib.hid (pbox w W1 s t _ _ hW1)
    rw [← hW1]
    clear hW1
    refine (C1.out W1).mono ?_
    rintro e w1 ⟨rfl, hb1⟩
    have B2 := Lib.hid (And.intro (B1.out.1.trans (hb1.mono B1.out.1.size)) (B1.out.2.1.next hb1))
    clear hb1 B1
    have q0 := (B2.out.2).c0
    have q1 := (B2.out.2).c1
    have q2 := (B2.out.2).c2
    have q3 := (B2.out.2).c3
    have q4 := (B2.out.2).c4
    have q5 := (B2.out.2).c5
    have ql := (B2.out.2).lt
    go_wp2_with fail
    refine (C2.out w1 B2.out.1).mono ?_
    rintro e w2 ⟨rfl, hb2⟩
    have B3 := Lib.hid (B2.out.1.trans (hb2.mono B2.out.1.size))
    clear hb2 B2
    clear q0 q1 q2 q3 q4 q5 ql
    go_wp2
    go_quiet (fail)
    go_wp2
    go_ret3
    exact ⟨rfl, Ls.below_drawn (B3.out.alloc B3.out.size _) _⟩
  · rw [if_neg h0, if_neg h0, if_neg h0]
    have hd : (x != 0) = true := by simpa using h0
    clear h0
    go_enter Tryz.func25, Tryz.ntmps25
    go_wp2_with fail
    obtain ⟨W1, hW1⟩ : ∃ W1, W1 = (w.alloc (.cells #[.slice s.w.a s.w.n s.w.c, .slice s.p.a s.p.n s.p.c, .slice (s.u 0).a (s.u 0).n (s.u 0).c, .slice (s.u 1).a (s.u 1).n (s.u 1).c, .slice (s.u 2).a (s.u 2).n (s.u 2).c, .slice s.c.a s.c.n s.c.c] 28)).alloc (.cells #[.bool t.lv, .int .i64 (t.r 0), .int .i64 (t.r 1), .int .i64 (t.r 2), .int .i64 (t.r 3), .slice (t.u 0).a (t.u 0).n (t.u 0).c, .slice (t.u 1).a (t.u 1).n (t.u 1).c, .slice (t.u 2).a (t.u 2).n (t.u 2).c, .int .i64 t.ep, .int .i64 t.sg, .int .i64 t.rt, .slice t.o.a t.o.n t.o.c, .int .i64 t.pc, .int .i64 t.x, .int .i64 t.y] 34) := ⟨_, rfl⟩
    have B1 := Lib.hid (pbox w W1 s t _ _ hW1)
    rw [← hW1]
    clear hW1
    refine (C1.out W1).mono ?_
    rintro e w1 ⟨rfl, hb1⟩
    have B2 := Lib.hid (And.intro (B1.out.1.trans (hb1.mono B1.out.1.size)) (B1.out.2.1.next hb1))
    clear hb1 B1
    have q0 := (B2.out.2).c0
    have q1 := (B2.out.2).c1
    have q2 := (B2.out.2).c2
    have q3 := (B2.out.2).c3
    have q4 := (B2.out.2).c4
    have q5 := (B2.out.2).c5
    have ql := (B2.out.2).lt
    go_wp2_with fail
    refine (C2.out w1 B2.out.1).mono ?_
    rintro e w2 ⟨rfl, hb2⟩
    have B3 := Lib.hid (B2.out.1.trans (hb2.mono B2.out.1.size))
    clear hb2 B2
    clear q0 q1 q2 q3 q4 q5 ql
    go_wp2
    go_ret3
    exact ⟨rfl, B3.out.alloc B3.out.size _⟩
theorem pobj_any (s : Hs) (d : Hd_) (t : Ts) (r : Int) (w : World) (hp : Hp w w.heap.size s d) (hz : Cl.Sz w) (hf : Fine s d) : Calls Tryz.prog 25 #[(.agg #[.slice s.w.a s.w.n s.w.c, .slice s.p.a s.p.n s.p.c, .slice (s.u 0).a (s.u 0).n (s.u 0).c, .slice (s.u 1).a (s.u 1).n (s.u 1).c, .slice (s.u 2).a (s.u 2).n (s.u 2).c, .slice s.c.a s.c.n s.c.c]), (.agg #[.bool t.lv, .int .i64 (t.r 0), .int .i64 (t.r 1), .int .i64 (t.r 2), .int .i64 (t.r 3), .slice (t.u 0).a (t.u 0).n (t.u 0).c, .slice (t.u 1).a (t.u 1).n (t.u 1).c, .slice (t.u 2).a (t.u 2).n (t.u 2).c, .int .i64 t.ep, .int .i64 t.sg, .int .i64 t.rt, .slice t.o.a t.o.n t.o.c, .int .i64 t.pc, .int .i64 t.x, .int .i64 t.y]), .int .i64 r] w (Three w (ofA s d t r) (ofN s d t r) (ofE s d t r)) := by
  cases hr : inReg r with
  | false =>
    rw [show ofA s d t r = 0 from if_neg (by rw [hr]; decide), show ofN s d t r = 0 from if_neg (by rw [hr]; decide), show ofE s d t r = 1 from if_neg (by rw [hr]; decide)]
    exact pobj_no s t r hr w
  | true =>
    rw [show ofA s d t r = _ from if_pos hr, show ofN s d t r = _ from if_pos hr, show ofE s d t r = _ from if_pos hr]
    exact pobj_yes s d t r _ hr rfl w hp hz hf
end Go.Proofs.YtfjhhfncapmnmaaGreatDoor.Rt
