/-
  Package mutate: taken.
-/
import Derived.Test.YtfjhhfncapmnmaaGreatDoorHpRH
import Derived.Test.YtfjhhfncapmnmaaGreatDoorHpRF
import Derived.Test.YtfjhhfncapmnmaaGreatDoorHpRC
import Derived.Test.YtfjhhfncapmnmaaGreatDoorHpRG
namespace Go.Proofs.YtfjhhfncapmnmaaGreatDoor.Mu
open Go.Proofs.YtfjhhfncapmnmaaGreatDoor Go.Proofs.YtfjhhfncapmnmaaGreatDoor.Rt
open Go.RowKit
set_option maxRecDepth 100000

/-- Does a thread take a step? -/
def takenB (s : Hs) (d : Hd_) (t : Ts) (F : Nat → List Int) : Bool := mayT t && (t.lv && (decide (0 < t.o.n) && mayH s d 1 (fun _ => F)))
theorem may_one (s : Hs) (d : Hd_) (u : Nat → Ls.Sl) (F : Nat → List Int) (W : World) (hp : Hp W W.heap.size s d) (l3 : Ls.L3 W W.heap.size u F) (hz : Cl.Sz W) (hf : FineT s d u F) :
    Calls Tryz.prog 24 #[(.agg #[.slice s.w.a s.w.n s.w.c, .slice s.p.a s.p.n s.p.c, .slice (s.u 0).a (s.u 0).n (s.u 0).c, .slice (s.u 1).a (s.u 1).n (s.u 1).c, .slice (s.u 2).a (s.u 2).n (s.u 2).c, .slice s.c.a s.c.n s.c.c]), .slice (some ⟨W.heap.size, 0, none⟩) 1 1] (W.alloc (.cells #[.slice (u 0).a (u 0).n (u 0).c, .slice (u 1).a (u 1).n (u 1).c, .slice (u 2).a (u 2).n (u 2).c] 25)) fun e w' => e = .returned (.bool (mayH s d 1 (fun _ => F))) ∧ Below (W.alloc (.cells #[.slice (u 0).a (u 0).n (u 0).c, .slice (u 1).a (u 1).n (u 1).c, .slice (u 2).a (u 2).n (u 2).c] 25)).heap.size (W.alloc (.cells #[.slice (u 0).a (u 0).n (u 0).c, .slice (u 1).a (u 1).n (u 1).c, .slice (u 2).a (u 2).n (u 2).c] 25)) w' := by
  have hb := (Below.refl W.heap.size W).alloc (Nat.le_refl _) (.cells #[.slice (u 0).a (u 0).n (u 0).c, .slice (u 1).a (u 1).n (u 1).c, .slice (u 2).a (u 2).n (u 2).c] 25)
  refine pmay_any s d (some ⟨W.heap.size, 0, none⟩) 1 1 (fun _ => u) (fun _ => F) (W.alloc (.cells #[.slice (u 0).a (u 0).n (u 0).c, .slice (u 1).a (u 1).n (u 1).c, .slice (u 2).a (u 2).n (u 2).c] 25)) (hp.next hb) (lrow_of (own_one W u) (by simp) (fun _ _ => l3.next hb)) (by decide) (hz.over hb hz.pos) hf.fine.wn ?_ hf.fine.cn hf.all
  have := hf.fine.pn
  omega
/-- The boxes of a heap and a thread. -/
structure Ht (w W : World) (s : Hs) (t : Ts) : Prop where
  bel : Below w.heap.size w W
  hb : Box W w.heap.size (hv s)
  tb : Box W (w.heap.size + 1) (tv t)
section
variable {w W W' : World} {s : Hs} {t : Ts}
theorem Ht.next (h : Ht w W s t) (hb : Below W.heap.size W W') : Ht w W' s t := ⟨h.bel.trans (hb.mono h.bel.size), h.hb.next hb, h.tb.next hb⟩
theorem ht_start {ty ty' : TypeId} (h : W = (w.alloc (.cells #[.slice s.w.a s.w.n s.w.c, .slice s.p.a s.p.n s.p.c, .slice (s.u 0).a (s.u 0).n (s.u 0).c, .slice (s.u 1).a (s.u 1).n (s.u 1).c, .slice (s.u 2).a (s.u 2).n (s.u 2).c, .slice s.c.a s.c.n s.c.c] ty)).alloc (.cells #[.bool t.lv, .int .i64 (t.r 0), .int .i64 (t.r 1), .int .i64 (t.r 2), .int .i64 (t.r 3), .slice (t.u 0).a (t.u 0).n (t.u 0).c, .slice (t.u 1).a (t.u 1).n (t.u 1).c, .slice (t.u 2).a (t.u 2).n (t.u 2).c, .int .i64 t.ep, .int .i64 t.sg, .int .i64 t.rt, .slice t.o.a t.o.n t.o.c, .int .i64 t.pc, .int .i64 t.x, .int .i64 t.y] ty')) : Ht w W s t := by
  have b2 : Below (w.alloc (.cells #[.slice s.w.a s.w.n s.w.c, .slice s.p.a s.p.n s.p.c, .slice (s.u 0).a (s.u 0).n (s.u 0).c, .slice (s.u 1).a (s.u 1).n (s.u 1).c, .slice (s.u 2).a (s.u 2).n (s.u 2).c, .slice s.c.a s.c.n s.c.c] ty)).heap.size (w.alloc (.cells #[.slice s.w.a s.w.n s.w.c, .slice s.p.a s.p.n s.p.c, .slice (s.u 0).a (s.u 0).n (s.u 0).c, .slice (s.u 1).a (s.u 1).n (s.u 1).c, .slice (s.u 2).a (s.u 2).n (s.u 2).c, .slice s.c.a s.c.n s.c.c] ty)) W := by rw [h]; exact (Below.refl _ _).alloc (Nat.le_refl _) _
  refine ⟨by rw [h]; exact ((Below.refl _ _).alloc (Nat.le_refl _) _).alloc (by simp) _, (Box.new w (hv s) ty).next b2, ?_⟩
  have := Box.new (w.alloc (.cells #[.slice s.w.a s.w.n s.w.c, .slice s.p.a s.p.n s.p.c, .slice (s.u 0).a (s.u 0).n (s.u 0).c, .slice (s.u 1).a (s.u 1).n (s.u 1).c, .slice (s.u 2).a (s.u 2).n (s.u 2).c, .slice s.c.a s.c.n s.c.c] ty)) (tv t) ty'
  rw [World.size_alloc] at this
  rw [h]
  exact this
end
set_option maxHeartbeats 2000000 in
theorem taken_core (s : Hs) (d : Hd_) (t : Ts) (F : Nat → List Int) (g : Nat → O4) (w : World) (b1 b2 b3 b4 : Bool) (h1 : mayT t = b1) (h2 : t.lv = b2) (h3 : decide (0 < t.o.n) = b3) (h4 : mayH s d 1 (fun _ => F) = b4) (hp : Hp w w.heap.size s d) (ht : Th w w.heap.size t F g) (hz : Cl.Sz w) (hf : FineT s d t.u F) :
    Calls Tryz.prog 38 #[(.agg #[.slice s.w.a s.w.n s.w.c, .slice s.p.a s.p.n s.p.c, .slice (s.u 0).a (s.u 0).n (s.u 0).c, .slice (s.u 1).a (s.u 1).n (s.u 1).c, .slice (s.u 2).a (s.u 2).n (s.u 2).c, .slice s.c.a s.c.n s.c.c]), (.agg #[.bool t.lv, .int .i64 (t.r 0), .int .i64 (t.r 1), .int .i64 (t.r 2), .int .i64 (t.r 3), .slice (t.u 0).a (t.u 0).n (t.u 0).c, .slice (t.u 1).a (t.u 1).n (t.u 1).c, .slice (t.u 2).a (t.u 2).n (t.u 2).c, .int .i64 t.ep, .int .i64 t.sg, .int .i64 t.rt, .slice t.o.a t.o.n t.o.c, .int .i64 t.pc, .int .i64 t.x, .int .i64 t.y])] w fun e w' => e = .returned (.bool (b1 && (b2 && (b3 && b4)))) ∧ Below w.heap.size w w' := by
  have C1 := Lib.hid (fun W => may_any t W)
  have C4 := Lib.hid (fun W (hb : Ht w W s t) => may_one s d t.u F W (hp.next hb.bel) (ht.c.next hb.bel) (hz.over hb.bel hz.pos) hf)
  rw [h1] at C1
  rw [h4] at C4
  have g3 : decide ((0 : Int) < (t.o.n : Int)) = b3 := by rw [← h3]; exact decide_eq_decide.2 (by omega)
  have H2 := Lib.hid h2
  clear h1 h2 h4 hp ht hz hf
  go_enter Tryz.func38, Tryz.ntmps38
  go_upto_region 1 with fail
  obtain ⟨W1, hW1⟩ : ∃ W1, W1 = (w.alloc (.cells #[.slice s.w.a s.w.n s.w.c, .slice s.p.a s.p.n s.p.c, .slice (s.u 0).a (s.u 0).n (s.u 0).c, .slice (s.u 1).a (s.u 1).n (s.u 1).c, .slice (s.u 2).a (s.u 2).n (s.u 2).c, .slice s.c.a s.c.n s.c.c] 28)).alloc (.cells #[.bool t.lv, .int .i64 (t.r 0), .int .i64 (t.r 1), .int .i64 (t.r 2), .int .i64 (t.r 3), .slice (t.u 0).a (t.u 0).n (t.u 0).c, .slice (t.u 1).a (t.u 1).n (t.u 1).c, .slice (t.u 2).a (t.u 2).n (t.u 2).c, .int .i64 t.ep, .int .i64 t.sg, .int .i64 t.rt, .slice t.o.a t.o.n t.o.c, .int .i64 t.pc, .int .i64 t.x, .int .i64 t.y] 34) := ⟨_, rfl⟩
  have B1 := Lib.hid (ht_start hW1)
  rw [← hW1]
  clear hW1
  have p0 := (B1.out.tb).cel 0 (.bool t.lv) rfl
  have p1 := (B1.out.tb).cel 1 (.int .i64 (t.r 0)) rfl
  have p2 := (B1.out.tb).cel 2 (.int .i64 (t.r 1)) rfl
  have p3 := (B1.out.tb).cel 3 (.int .i64 (t.r 2)) rfl
  have p4 := (B1.out.tb).cel 4 (.int .i64 (t.r 3)) rfl
  have p5 := (B1.out.tb).cel 5 (.slice (t.u 0).a (t.u 0).n (t.u 0).c) rfl
  have p6 := (B1.out.tb).cel 6 (.slice (t.u 1).a (t.u 1).n (t.u 1).c) rfl
  have p7 := (B1.out.tb).cel 7 (.slice (t.u 2).a (t.u 2).n (t.u 2).c) rfl
  have p8 := (B1.out.tb).cel 8 (.int .i64 t.ep) rfl
  have p9 := (B1.out.tb).cel 9 (.int .i64 t.sg) rfl
  have p10 := (B1.out.tb).cel 10 (.int .i64 t.rt) rfl
  have p11 := (B1.out.tb).cel 11 (.slice t.o.a t.o.n t.o.c) rfl
  have p12 := (B1.out.tb).cel 12 (.int .i64 t.pc) rfl
  have p13 := (B1.out.tb).cel 13 (.int .i64 t.x) rfl
  have p14 := (B1.out.tb).cel 14 (.int .i64 t.y) rfl
  have pl := (B1.out.tb).lt
  go_wp2_with fail
  refine (C1.out W1).mono ?_
  rintro e w2 ⟨rfl, hb2⟩
  have B2 := Lib.hid (B1.out.next hb2)
  clear hb2 B1 C1
  clear p0 p1 p2 p3 p4 p5 p6 p7 p8 p9 p10 p11 p12 p13 p14 pl
  have q0 := B2.out.tb.cel 0 (.bool b2) (by rw [← H2.out]; rfl)
  have q5 := B2.out.tb.cel 5 (.slice (t.u 0).a (t.u 0).n (t.u 0).c) rfl
  have q6 := B2.out.tb.cel 6 (.slice (t.u 1).a (t.u 1).n (t.u 1).c) rfl
  have q7 := B2.out.tb.cel 7 (.slice (t.u 2).a (t.u 2).n (t.u 2).c) rfl
  have q11 := B2.out.tb.cel 11 (.slice t.o.a t.o.n t.o.c) rfl
  have r0 := B2.out.hb.cel 0 (.slice s.w.a s.w.n s.w.c) rfl
  have r1 := B2.out.hb.cel 1 (.slice s.p.a s.p.n s.p.c) rfl
  have r2 := B2.out.hb.cel 2 (.slice (s.u 0).a (s.u 0).n (s.u 0).c) rfl
  have r3 := B2.out.hb.cel 3 (.slice (s.u 1).a (s.u 1).n (s.u 1).c) rfl
  have r4 := B2.out.hb.cel 4 (.slice (s.u 2).a (s.u 2).n (s.u 2).c) rfl
  have r5 := B2.out.hb.cel 5 (.slice s.c.a s.c.n s.c.c) rfl
  cases b1 with
  | false =>
    go_wp2
    go_ret
    exact ⟨rfl, B2.out.bel⟩
  | true =>
    cases b2 with
    | false =>
      go_wp2
      go_ret
      exact ⟨rfl, B2.out.bel⟩
    | true =>
      cases b3 with
      | false =>
        go_wp2
        go_ret
        exact ⟨rfl, B2.out.bel⟩
      | true =>
        go_wp2_with fail
        refine (C4.out w2 B2.out).mono ?_
        rintro e w3 ⟨rfl, hb3⟩
        have hb2 := (Below.refl w2.heap.size w2).alloc (Nat.le_refl _) (.cells #[.slice (t.u 0).a (t.u 0).n (t.u 0).c, .slice (t.u 1).a (t.u 1).n (t.u 1).c, .slice (t.u 2).a (t.u 2).n (t.u 2).c] 25)
        have B3 := Lib.hid (B2.out.bel.trans ((hb2.trans (hb3.mono hb2.size)).mono B2.out.bel.size))
        clear hb2 hb3
        go_wp2
        go_ret
        exact ⟨rfl, B3.out⟩
theorem taken_any (s : Hs) (d : Hd_) (t : Ts) (F : Nat → List Int) (g : Nat → O4) (w : World) (hp : Hp w w.heap.size s d) (ht : Th w w.heap.size t F g) (hz : Cl.Sz w) (hf : FineT s d t.u F) :
    Calls Tryz.prog 38 #[(.agg #[.slice s.w.a s.w.n s.w.c, .slice s.p.a s.p.n s.p.c, .slice (s.u 0).a (s.u 0).n (s.u 0).c, .slice (s.u 1).a (s.u 1).n (s.u 1).c, .slice (s.u 2).a (s.u 2).n (s.u 2).c, .slice s.c.a s.c.n s.c.c]), (.agg #[.bool t.lv, .int .i64 (t.r 0), .int .i64 (t.r 1), .int .i64 (t.r 2), .int .i64 (t.r 3), .slice (t.u 0).a (t.u 0).n (t.u 0).c, .slice (t.u 1).a (t.u 1).n (t.u 1).c, .slice (t.u 2).a (t.u 2).n (t.u 2).c, .int .i64 t.ep, .int .i64 t.sg, .int .i64 t.rt, .slice t.o.a t.o.n t.o.c, .int .i64 t.pc, .int .i64 t.x, .int .i64 t.y])] w fun e w' => e = .returned (.bool (takenB s d t F)) ∧ Below w.heap.size w w' := taken_core s d t F g w _ _ _ _ rfl rfl rfl rfl hp ht hz hf
end Go.Proofs.YtfjhhfncapmnmaaGreatDoor.Mu
