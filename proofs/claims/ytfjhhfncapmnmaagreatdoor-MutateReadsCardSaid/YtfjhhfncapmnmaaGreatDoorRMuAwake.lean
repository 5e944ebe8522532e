/-
  The chapter's example.
-/
import Derived.Test.YtfjhhfncapmnmaaGreatDoorHpRJ
import Derived.Test.YtfjhhfncapmnmaaGreatDoorHpRD
namespace Go.Proofs.YtfjhhfncapmnmaaGreatDoor.Mu
open Go.Proofs.YtfjhhfncapmnmaaGreatDoor Go.Proofs.YtfjhhfncapmnmaaGreatDoor.Rt
open Go.RowKit
set_option maxRecDepth 100000

def dOne : Hd_ := ⟨List.replicate 16 0, fun _ => (0, 0), Ls.noLists, fun _ => false⟩
def rOne : Nat → Int
  | 1 => 16
  | _ => 0
def gOne : Nat → O4 := fun _ => ⟨3, 1, 0, 0⟩
def tOne (b : Nat) : Ts := ⟨true, rOne, Ls.noSl, 0, 0, 0, ⟨some ⟨b, 0, none⟩, 1, 1⟩, 0, 0, 0⟩
def Szs (s : Hs) : Prop := s.w.n = 16 ∧ s.p.n = 1 ∧ s.c.n = 2
theorem zeros_at (n i : Nat) : (List.replicate n (0 : Int)).getD i 0 = 0 := by by_cases h : i < n <;> simp [List.getD, h]
theorem fine_one {s : Hs} (h : Szs s) : Fine s dOne := by
  obtain ⟨h1, h2, h3⟩ := h
  refine ⟨by omega, by omega, by omega, fun i => ?_, by decide⟩
  have : dOne.ws.getD i 0 = 0 := zeros_at 16 i
  omega
theorem taken_one {s : Hs} (h : Szs s) (b : Nat) : takenB s dOne (tOne b) Ls.noLists = true := by
  obtain ⟨⟨a1, n1, c1⟩, ⟨a2, n2, c2⟩, x, ⟨a3, n3, c3⟩⟩ := s
  obtain ⟨h1, h2, h3⟩ := h
  dsimp only at h1 h2 h3
  subst h1 h2 h3
  kernel_rfl
theorem new_one (w : World) : Calls Tryz.prog 31 #[.int .i64 1] w fun e w' => ∃ s, e = .returned (.tuple #[(.agg #[.slice s.w.a s.w.n s.w.c, .slice s.p.a s.p.n s.p.c, .slice (s.u 0).a (s.u 0).n (s.u 0).c, .slice (s.u 1).a (s.u 1).n (s.u 1).c, .slice (s.u 2).a (s.u 2).n (s.u 2).c, .slice s.c.a s.c.n s.c.c]), .int .i64 0]) ∧ Hp w' w'.heap.size s dOne ∧ Szs s ∧ (∀ j, j < 3 → (s.u j).n = 0) ∧ Below w.heap.size w w' :=
  (new_ok 1 w (by omega) (by omega)).mono fun _ _ ⟨A, C, g, cw, h1, h2, h3, h4, h5⟩ => ⟨⟨⟨some ⟨g, 0, none⟩, 16 * 1, cw⟩, ⟨A, 1, 1⟩, Ls.noSl, ⟨C, 2 * 1, 2 * 1⟩⟩, h1, ⟨h2, h3, Ls.L3.none_ _ _, h4⟩, ⟨rfl, rfl, rfl⟩, fun _ _ => rfl, h5⟩
theorem in_one {s : Hs} {w W : World} (hp : Hp W W.heap.size s dOne) (h : Szs s) (hu : ∀ j, j < 3 → (s.u j).n = 0) (hz : Cl.Sz W) (ty : TypeId) (hW : w = W.alloc (.cells #[.int .i64 3, .int .i64 1, .int .i64 0, .int .i64 0] ty)) : In w s noK0 (tOne W.heap.size) dOne [] Ls.noLists gOne := by
  have hb : Below W.heap.size W w := by rw [hW]; exact (Below.refl _ _).alloc (Nat.le_refl _) _
  have hl : W.heap.size < w.heap.size := by rw [hW]; simp
  refine ⟨hp.next hb, Row.none_ _ _, ⟨Ls.L3.none_ _ _, fun _ => ⟨W.heap.size, 0, rfl, hl, fun i hi => ?_⟩, Nat.le_refl _⟩, hz.over hb hz.pos, ⟨fine_one h, fun j hj => by rw [hu j hj]; omega, fun j hj => Nat.zero_le _, by decide⟩, fun j hj => Nat.zero_le _, (show 1 ≤ 100000 by decide), Nat.zero_le _⟩
  have hi' : i < 1 := hi
  obtain rfl : i = 0 := by omega
  rw [hW]
  refine ⟨?_, ?_, ?_, ?_⟩ <;> simp [go_sem, gOne]
set_option maxHeartbeats 4000000 in
theorem awake_any (w : World) (hz : Cl.Sz w) : Calls Tryz.prog 10 #[] w fun e w' => e = .returned (.bool true) ∧ Below w.heap.size w w' := by
  have HZ := Lib.hid hz
  have hz0 := hz.pos
  clear hz
  go_enter Tryz.func10, Tryz.ntmps10
  go_wp2_with fail
  refine (new_one w).mono ?_
  rintro e w1 ⟨s, rfl, hp1, hs1, hu1, hb1⟩
  have HS := Lib.hid (And.intro hs1 hu1)
  have HP := Lib.hid (And.intro hp1 hb1)
  clear hp1 hs1 hu1 hb1
  go_upto_region 2 with fail
  obtain ⟨W1, hW1⟩ : ∃ W1, W1 = w1.alloc (.cells #[.slice s.w.a s.w.n s.w.c, .slice s.p.a s.p.n s.p.c, .slice (s.u 0).a (s.u 0).n (s.u 0).c, .slice (s.u 1).a (s.u 1).n (s.u 1).c, .slice (s.u 2).a (s.u 2).n (s.u 2).c, .slice s.c.a s.c.n s.c.c] 28) := ⟨_, rfl⟩
  have X1 : Hid (Below w1.heap.size w1 W1 ∧ Box W1 w1.heap.size (hv s)) := Lib.hid (by rw [hW1]; exact ⟨(Below.refl _ _).alloc (Nat.le_refl _) _, Box.new w1 (hv s) _⟩)
  rw [← hW1]
  clear hW1
  go_wp2_with (refine w_load (ldHb X1.out.2) rfl rfl rfl rfl ?_)
  obtain ⟨W2, hW2⟩ : ∃ W2, W2 = W1.alloc (.cells #[.int .i64 3, .int .i64 1, .int .i64 0, .int .i64 0] 39) := ⟨_, rfl⟩
  have BX := Lib.hid (HP.out.2.trans (X1.out.1.mono HP.out.2.size))
  have I2 := Lib.hid (in_one (HP.out.1.next X1.out.1) HS.out.1 HS.out.2 (HZ.out.over BX.out hz0) _ hW2)
  have B2 : Hid (Below w.heap.size w W2) := Lib.hid (by rw [hW2]; exact BX.out.trans (((Below.refl _ _).alloc (Nat.le_refl _) _).mono BX.out.size))
  rw [← hW2]
  clear hW2
  refine (pstep_read s noK0 (tOne W1.heap.size) dOne [] Ls.noLists gOne W2 I2.out (taken_one HS.out.1 _) (.inr (.inl rfl))).mono ?_
  rintro e w3 ⟨n, rfl, he, hh, hnw, hb3⟩
  have B3 := Lib.hid (B2.out.trans (hb3.mono B2.out.size))
  have hb9 : n.b = true := he.b
  have he9 : n.e = 0 := he.e
  have ho9 : n.t.o.n = 0 := he.on
  have hr9 : ∀ i, i < 4 → n.t.r i = 0 := fun i hi => by
    rw [he.t]
    match i, hi with
    | 0, _ => rfl
    | 1, _ => rfl
    | 2, _ => rfl
    | 3, _ => rfl
  have HE := Lib.hid (And.intro hb9 (And.intro he9 (And.intro ho9 hr9)))
  clear he hh hnw hb3 hr9 hb9 he9 ho9
  go_upto_region 3 with fail
  obtain ⟨W4, hW4⟩ : ∃ W4, W4 = (((w3.alloc (.cells #[.slice n.s.w.a n.s.w.n n.s.w.c, .slice n.s.p.a n.s.p.n n.s.p.c, .slice (n.s.u 0).a (n.s.u 0).n (n.s.u 0).c, .slice (n.s.u 1).a (n.s.u 1).n (n.s.u 1).c, .slice (n.s.u 2).a (n.s.u 2).n (n.s.u 2).c, .slice n.s.c.a n.s.c.n n.s.c.c] 28)).alloc (.cells #[.int .i64 n.k.ph, .int .i64 n.k.ep, .bool n.k.mj, .slice n.k.wk.a n.k.wk.n n.k.wk.c, .bool n.k.ov, .int .i64 n.k.pa, .int .i64 n.k.pf, .int .i64 n.k.ps, .int .i64 n.k.pc, .bool n.k.me] 30)).alloc (.cells #[.bool n.t.lv, .int .i64 (n.t.r 0), .int .i64 (n.t.r 1), .int .i64 (n.t.r 2), .int .i64 (n.t.r 3), .slice (n.t.u 0).a (n.t.u 0).n (n.t.u 0).c, .slice (n.t.u 1).a (n.t.u 1).n (n.t.u 1).c, .slice (n.t.u 2).a (n.t.u 2).n (n.t.u 2).c, .int .i64 n.t.ep, .int .i64 n.t.sg, .int .i64 n.t.rt, .slice n.t.o.a n.t.o.n n.t.o.c, .int .i64 n.t.pc, .int .i64 n.t.x, .int .i64 n.t.y] 34)).alloc (.cells #[.int .i64 0, .int .i64 n.q.k, .int .i64 n.q.a, .int .i64 n.q.b, .int .i64 n.q.c, .int .i64 n.e, .int .i64 n.v] 42) := ⟨_, rfl⟩
  have L4 : Hid (Lb w W4 [(w3.heap.size + 3, qv n.q n.e n.v), (w3.heap.size + 2, tv n.t), (w3.heap.size + 1, kv n.k), (w3.heap.size, hv n.s)] []) := Lib.hid (by
    have l := ((((Lb.mk (ps := []) B3.out (bs := []) (fun x hx => by cases hx) (fun x hx => by cases hx)).lay (hv n.s) 28).lay (kv n.k) 30).lay (tv n.t) 34).lay (qv n.q n.e n.v) 42
    rw [World.size_alloc, World.size_alloc, World.size_alloc] at l
    rw [hW4]
    exact l)
  rw [← hW4]
  clear hW4
  obtain ⟨hb9, he9, ho9, hr9⟩ := HE.out
  have q5 := (L4.out.bx (w3.heap.size + 3) (qv n.q n.e n.v) (by simp)).cel 5 (.int .i64 0) (by rw [← he9]; rfl)
  have q1 := (L4.out.bx (w3.heap.size + 2) (tv n.t) (by simp)).cel 1 (.int .i64 0) (by rw [← hr9 0 (by decide)]; rfl)
  have q2 := (L4.out.bx (w3.heap.size + 2) (tv n.t) (by simp)).cel 2 (.int .i64 0) (by rw [← hr9 1 (by decide)]; rfl)
  have q3 := (L4.out.bx (w3.heap.size + 2) (tv n.t) (by simp)).cel 3 (.int .i64 0) (by rw [← hr9 2 (by decide)]; rfl)
  have q4 := (L4.out.bx (w3.heap.size + 2) (tv n.t) (by simp)).cel 4 (.int .i64 0) (by rw [← hr9 3 (by decide)]; rfl)
  have q11 := (L4.out.bx (w3.heap.size + 2) (tv n.t) (by simp)).cel 11 (.slice n.t.o.a 0 n.t.o.c) (by rw [← ho9]; rfl)
  have ra := fun W => regs_self 0 0 0 0 W
  clear he9 ho9 hr9
  go_wp2
  go_ret
  exact ⟨rfl, L4.out.bel⟩
end Go.Proofs.YtfjhhfncapmnmaaGreatDoor.Mu
