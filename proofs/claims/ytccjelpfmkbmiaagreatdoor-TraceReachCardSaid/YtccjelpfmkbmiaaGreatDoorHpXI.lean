/-
  Merged texts: ShBlack, RtRow, RtP, MuRow, MuW, MuOff, HpInv, MuPlan, ShAct, TrW, LsInts, ShGrey, TrFn.
-/
import Derived.Test.YtccjelpfmkbmiaaGreatDoorXShShade
import Derived.Test.YtccjelpfmkbmiaaGreatDoorHpXA
import Derived.Test.YtccjelpfmkbmiaaGreatDoorHpXG
import Derived.Deep.MidRow
import Derived.Test.YtccjelpfmkbmiaaGreatDoorHpXH
import Derived.Test.YtccjelpfmkbmiaaGreatDoorHpXE
import Derived.Deep.QuietTactic
import Derived.BigQuiet
import Derived.Test.YtccjelpfmkbmiaaGreatDoorHpXC
import Derived.WalkMore
section
namespace Go.Proofs.YtccjelpfmkbmiaaGreatDoor.Sh
open Go.Proofs.YtccjelpfmkbmiaaGreatDoor
open Go.RowKit
set_option maxRecDepth 100000

/-- What Black leaves. -/
def BlOut (w : World) (s : Hs) (d' : Hd_) (c : Bool) (e : Ending) (w' : World) : Prop :=
  ∃ t : Hs, e = .returned (.tuple #[(.agg #[.slice t.w.a t.w.n t.w.c, .slice t.p.a t.p.n t.p.c, .slice (t.u 0).a (t.u 0).n (t.u 0).c, .slice (t.u 1).a (t.u 1).n (t.u 1).c, .slice (t.u 2).a (t.u 2).n (t.u 2).c, .slice t.c.a t.c.n t.c.c]), .bool c]) ∧ Hp w' w'.heap.size t d' ∧ Lens s t ∧ Below w.heap.size w w'
def BlOutN (w : World) (s : Hs) (d' : Hd_) (c : Bool) (e : Ending) (w' : World) : Prop :=
  ∃ t : Hs, e = .returned (.tuple #[(.agg #[.slice t.w.a t.w.n t.w.c, .slice t.p.a t.p.n t.p.c, .slice (t.u 0).a (t.u 0).n (t.u 0).c, .slice (t.u 1).a (t.u 1).n (t.u 1).c, .slice (t.u 2).a (t.u 2).n (t.u 2).c, .slice t.c.a t.c.n t.c.c]), .bool c]) ∧ Hp w' w'.heap.size t d' ∧ Lens s t ∧ News w.heap.size t ∧ Below w.heap.size w w'
/-- The boxes of a walk through Black. -/
structure Bw (w W : World) (s : Hs) (d : Hd_) (k : Ks) (xs : List Int) : Prop where
  bel : Below w.heap.size w W
  hb : Box6 W w.heap.size s
  kb : CBox W (w.heap.size + 1) k
  rb : T6 W (w.heap.size + 2)
  hp0 : Hp w w.heap.size s d
  wr0 : WRow w w.heap.size k xs
section
variable {w W W' w3 : World} {s t : Hs} {d d' : Hd_} {k : Ks} {xs ys : List Int} {b : Nat}
theorem Bw.hp (h : Bw w W s d k xs) : Hp W W.heap.size s d := h.hp0.next h.bel
theorem Bw.wr (h : Bw w W s d k xs) : WRow W W.heap.size k xs := h.wr0.next h.bel
theorem Bw.same (h : Bw w W s d k xs) (hb : Below (w.heap.size + 3) W W') : Bw w W' s d k xs := by
  have hs : ∀ g, g < w.heap.size + 3 → W'.heap[g]? = W.heap[g]? := fun g hg => hb.block g hg
  exact ⟨h.bel.trans (hb.mono (by omega)), h.hb.same (hs _ (by omega)) hb.size, h.kb.same (hs _ (by omega)) hb.size, h.rb.same (hs _ (by omega)) hb.size, h.hp0, h.wr0⟩
theorem Bw.next (h : Bw w W s d k xs) (hb : Below W.heap.size W W') : Bw w W' s d k xs := h.same (hb.mono (by have := h.rb.lt; omega))
theorem bw_start {t1 t2 t3 : TypeId} (hp : Hp w w.heap.size s d) (hk : WRow w w.heap.size k xs) (h : W = ((w.alloc (.cells #[.slice s.w.a s.w.n s.w.c, .slice s.p.a s.p.n s.p.c, .slice (s.u 0).a (s.u 0).n (s.u 0).c, .slice (s.u 1).a (s.u 1).n (s.u 1).c, .slice (s.u 2).a (s.u 2).n (s.u 2).c, .slice s.c.a s.c.n s.c.c] t1)).alloc (.cells #[.int .i64 k.ph, .int .i64 k.ep, .bool k.mj, .slice k.wk.a k.wk.n k.wk.c, .bool k.ov, .int .i64 k.pa, .int .i64 k.pf, .int .i64 k.ps, .int .i64 k.pc, .bool k.me] t2)).alloc (.cells #[.slice none 0 0, .slice none 0 0, .slice none 0 0, .slice none 0 0, .slice none 0 0, .slice none 0 0] t3)) : Bw w W s d k xs := by
  have z1 : (w.alloc (.cells #[.slice s.w.a s.w.n s.w.c, .slice s.p.a s.p.n s.p.c, .slice (s.u 0).a (s.u 0).n (s.u 0).c, .slice (s.u 1).a (s.u 1).n (s.u 1).c, .slice (s.u 2).a (s.u 2).n (s.u 2).c, .slice s.c.a s.c.n s.c.c] t1)).heap.size = w.heap.size + 1 := World.size_alloc _ _
  have z2 : ((w.alloc (.cells #[.slice s.w.a s.w.n s.w.c, .slice s.p.a s.p.n s.p.c, .slice (s.u 0).a (s.u 0).n (s.u 0).c, .slice (s.u 1).a (s.u 1).n (s.u 1).c, .slice (s.u 2).a (s.u 2).n (s.u 2).c, .slice s.c.a s.c.n s.c.c] t1)).alloc (.cells #[.int .i64 k.ph, .int .i64 k.ep, .bool k.mj, .slice k.wk.a k.wk.n k.wk.c, .bool k.ov, .int .i64 k.pa, .int .i64 k.pf, .int .i64 k.ps, .int .i64 k.pc, .bool k.me] t2)).heap.size = w.heap.size + 2 := by rw [World.size_alloc, z1]
  have b3 : Below ((w.alloc (.cells #[.slice s.w.a s.w.n s.w.c, .slice s.p.a s.p.n s.p.c, .slice (s.u 0).a (s.u 0).n (s.u 0).c, .slice (s.u 1).a (s.u 1).n (s.u 1).c, .slice (s.u 2).a (s.u 2).n (s.u 2).c, .slice s.c.a s.c.n s.c.c] t1)).alloc (.cells #[.int .i64 k.ph, .int .i64 k.ep, .bool k.mj, .slice k.wk.a k.wk.n k.wk.c, .bool k.ov, .int .i64 k.pa, .int .i64 k.pf, .int .i64 k.ps, .int .i64 k.pc, .bool k.me] t2)).heap.size ((w.alloc (.cells #[.slice s.w.a s.w.n s.w.c, .slice s.p.a s.p.n s.p.c, .slice (s.u 0).a (s.u 0).n (s.u 0).c, .slice (s.u 1).a (s.u 1).n (s.u 1).c, .slice (s.u 2).a (s.u 2).n (s.u 2).c, .slice s.c.a s.c.n s.c.c] t1)).alloc (.cells #[.int .i64 k.ph, .int .i64 k.ep, .bool k.mj, .slice k.wk.a k.wk.n k.wk.c, .bool k.ov, .int .i64 k.pa, .int .i64 k.pf, .int .i64 k.ps, .int .i64 k.pc, .bool k.me] t2)) W := by rw [h]; exact (Below.refl _ _).alloc (Nat.le_refl _) _
  have b2 : Below (w.alloc (.cells #[.slice s.w.a s.w.n s.w.c, .slice s.p.a s.p.n s.p.c, .slice (s.u 0).a (s.u 0).n (s.u 0).c, .slice (s.u 1).a (s.u 1).n (s.u 1).c, .slice (s.u 2).a (s.u 2).n (s.u 2).c, .slice s.c.a s.c.n s.c.c] t1)).heap.size (w.alloc (.cells #[.slice s.w.a s.w.n s.w.c, .slice s.p.a s.p.n s.p.c, .slice (s.u 0).a (s.u 0).n (s.u 0).c, .slice (s.u 1).a (s.u 1).n (s.u 1).c, .slice (s.u 2).a (s.u 2).n (s.u 2).c, .slice s.c.a s.c.n s.c.c] t1)) W := ((Below.refl _ _).alloc (Nat.le_refl _) _).trans (b3.mono (by omega))
  have b1 : Below w.heap.size w W := ((Below.refl _ _).alloc (Nat.le_refl _) _).trans (b2.mono (by omega))
  have x2 := (CBox.new (w.alloc (.cells #[.slice s.w.a s.w.n s.w.c, .slice s.p.a s.p.n s.p.c, .slice (s.u 0).a (s.u 0).n (s.u 0).c, .slice (s.u 1).a (s.u 1).n (s.u 1).c, .slice (s.u 2).a (s.u 2).n (s.u 2).c, .slice s.c.a s.c.n s.c.c] t1)) k t2).next b3
  have x3 := box6_new ((w.alloc (.cells #[.slice s.w.a s.w.n s.w.c, .slice s.p.a s.p.n s.p.c, .slice (s.u 0).a (s.u 0).n (s.u 0).c, .slice (s.u 1).a (s.u 1).n (s.u 1).c, .slice (s.u 2).a (s.u 2).n (s.u 2).c, .slice s.c.a s.c.n s.c.c] t1)).alloc (.cells #[.int .i64 k.ph, .int .i64 k.ep, .bool k.mj, .slice k.wk.a k.wk.n k.wk.c, .bool k.ov, .int .i64 k.pa, .int .i64 k.pf, .int .i64 k.ps, .int .i64 k.pc, .bool k.me] t2)) noHs t3
  rw [z1] at x2
  rw [z2] at x3
  exact ⟨b1, (box6_new w s t1).next b2, x2, by rw [h]; exact t6_of x3, hp, hk⟩
theorem res_black {c : Value} {tm : Array Value} {v0 v1 v2 v3 v4 v5 : Value} (h6 : tm[6]? = some (.pointer (some ⟨b, 0, none⟩))) (h7 : tm[7]? = some c) (k0 : W.cell? ⟨b, 0, none⟩ = some v0) (k1 : W.cell? ⟨b, 1, none⟩ = some v1) (k2 : W.cell? ⟨b, 2, none⟩ = some v2) (k3 : W.cell? ⟨b, 3, none⟩ = some v3) (k4 : W.cell? ⟨b, 4, none⟩ = some v4) (k5 : W.cell? ⟨b, 5, none⟩ = some v5) :
    (results Tryz.f114 tm).run Tryz.prog W = .ok (.tuple #[.agg #[v0, v1, v2, v3, v4, v5], c]) W := by
  simp [results, Tryz.results114, go_sem, h6, h7, k0, k1, k2, k3, k4, k5]
theorem bl_end {c : Bool} (v0 v1 v2 v3 v4 v5 : Value) (bel : Below w.heap.size w W) (hp : Hp W W.heap.size t d') (hl : Lens s t) (nw : News (w.heap.size + 3) t) : BlOutN w s d' c (.returned (.tuple #[(.agg #[.slice t.w.a t.w.n t.w.c, .slice t.p.a t.p.n t.p.c, .slice (t.u 0).a (t.u 0).n (t.u 0).c, .slice (t.u 1).a (t.u 1).n (t.u 1).c, .slice (t.u 2).a (t.u 2).n (t.u 2).c, .slice t.c.a t.c.n t.c.c]), .bool c])) (put6 W (w.heap.size + 2) v0 v1 v2 v3 v4 v5) :=
  ⟨t, rfl, nw.kept hp (fun g h1 _ => put6_other _ _ _ _ _ _ _ _ (by omega)) (Nat.le_of_eq (put6_size _ _ _ _ _ _ _ _).symm), hl, news_less nw (by omega), below_put6 bel (by omega) _ _ _ _ _ _⟩
end
section
variable (s : Hs) (d : Hd_) (k : Ks) (xs : List Int) (a : Int) (w : World)
set_option maxHeartbeats 4000000 in
theorem black_no (u o e : Bool) (n b m : Int) (hp : Hp w w.heap.size s d) (hk : WRow w w.heap.size k xs) (hF : ∀ W, Bw w W s d k xs → Calls Tryz.prog 76 #[(.agg #[.slice s.w.a s.w.n s.w.c, .slice s.p.a s.p.n s.p.c, .slice (s.u 0).a (s.u 0).n (s.u 0).c, .slice (s.u 1).a (s.u 1).n (s.u 1).c, .slice (s.u 2).a (s.u 2).n (s.u 2).c, .slice s.c.a s.c.n s.c.c]), (.agg #[.int .i64 k.ph, .int .i64 k.ep, .bool k.mj, .slice k.wk.a k.wk.n k.wk.c, .bool k.ov, .int .i64 k.pa, .int .i64 k.pf, .int .i64 k.ps, .int .i64 k.pc, .bool k.me]), .int .i64 a, .int .i64 2] W (FindOut W (.agg #[.bool u, .bool o, .bool e, .int .i64 n, .int .i64 b, .int .i64 m]) false)) (hC : ∀ W, Bw w W s d k xs → Calls Tryz.prog 41 #[(.agg #[.slice s.w.a s.w.n s.w.c, .slice s.p.a s.p.n s.p.c, .slice (s.u 0).a (s.u 0).n (s.u 0).c, .slice (s.u 1).a (s.u 1).n (s.u 1).c, .slice (s.u 2).a (s.u 2).n (s.u 2).c, .slice s.c.a s.c.n s.c.c])] W (FreshW W s d)) : Calls Tryz.prog 114 #[(.agg #[.slice s.w.a s.w.n s.w.c, .slice s.p.a s.p.n s.p.c, .slice (s.u 0).a (s.u 0).n (s.u 0).c, .slice (s.u 1).a (s.u 1).n (s.u 1).c, .slice (s.u 2).a (s.u 2).n (s.u 2).c, .slice s.c.a s.c.n s.c.c]), (.agg #[.int .i64 k.ph, .int .i64 k.ep, .bool k.mj, .slice k.wk.a k.wk.n k.wk.c, .bool k.ov, .int .i64 k.pa, .int .i64 k.pf, .int .i64 k.ps, .int .i64 k.pc, .bool k.me]), .int .i64 a] w (BlOutN w s d false) := by
  have HP := Lib.hid hp
  have HK := Lib.hid hk
  have HF := Lib.hid hF
  have HC := Lib.hid hC
  clear hp hk hF hC
  go_enter Tryz.func114, Tryz.ntmps114
  go_upto_region 1 with fail
  obtain ⟨W0, hW0⟩ : ∃ W0, W0 = ((w.alloc (.cells #[.slice s.w.a s.w.n s.w.c, .slice s.p.a s.p.n s.p.c, .slice (s.u 0).a (s.u 0).n (s.u 0).c, .slice (s.u 1).a (s.u 1).n (s.u 1).c, .slice (s.u 2).a (s.u 2).n (s.u 2).c, .slice s.c.a s.c.n s.c.c] 28)).alloc (.cells #[.int .i64 k.ph, .int .i64 k.ep, .bool k.mj, .slice k.wk.a k.wk.n k.wk.c, .bool k.ov, .int .i64 k.pa, .int .i64 k.pf, .int .i64 k.ps, .int .i64 k.pc, .bool k.me] 30)).alloc (.cells #[.slice none 0 0, .slice none 0 0, .slice none 0 0, .slice none 0 0, .slice none 0 0, .slice none 0 0] 28) := ⟨_, rfl⟩
  have K0 := Lib.hid (bw_start HP.out HK.out hW0)
  rw [← hW0]
  clear hW0
  have q0 := (K0.out.hb.box).c0
  have q1 := (K0.out.hb.box).c1
  have q2 := (K0.out.hb.box).c2
  have q3 := (K0.out.hb.box).c3
  have q4 := (K0.out.hb.box).c4
  have q5 := (K0.out.hb.box).c5
  have ql := (K0.out.hb.box).lt
  have p0 := (K0.out.kb).c0
  have p1 := (K0.out.kb).c1
  have p2 := (K0.out.kb).c2
  have p3 := (K0.out.kb).c3
  have p4 := (K0.out.kb).c4
  have p5 := (K0.out.kb).c5
  have p6 := (K0.out.kb).c6
  have p7 := (K0.out.kb).c7
  have p8 := (K0.out.kb).c8
  have p9 := (K0.out.kb).c9
  have pl := (K0.out.kb).lt
  go_wp2_with fail
  refine (HF.out W0 K0.out).mono ?_
  rintro e9 w3 ⟨rfl, hb3⟩
  have K3 := Lib.hid (K0.out.next hb3)
  clear hb3 K0
  clear q0 q1 q2 q3 q4 q5 ql
  clear p0 p1 p2 p3 p4 p5 p6 p7 p8 p9 pl
  have K4 := Lib.hid (K3.out.next ((Below.refl w3.heap.size w3).alloc (Nat.le_refl _) (.cells #[.bool u, .bool o, .bool e, .int .i64 n, .int .i64 b, .int .i64 m] 53)))
  clear K3
  go_upto_region 3 with fail
  generalize w3.alloc (.cells #[.bool u, .bool o, .bool e, .int .i64 n, .int .i64 b, .int .i64 m] 53) = W4 at K4 ⊢
  have q0 := (K4.out.hb.box).c0
  have q1 := (K4.out.hb.box).c1
  have q2 := (K4.out.hb.box).c2
  have q3 := (K4.out.hb.box).c3
  have q4 := (K4.out.hb.box).c4
  have q5 := (K4.out.hb.box).c5
  have ql := (K4.out.hb.box).lt
  go_wp2_with fail
  refine (HC.out W4 K4.out).mono ?_
  rintro e9 w5 ⟨t, rfl, ht, hl, hw, hb5⟩
  have K5 := Lib.hid (K4.out.next hb5)
  have T5 := Lib.hid (And.intro ht (And.intro hl (news_less hw (show w.heap.size + 3 ≤ _ from K4.out.rb.lt))))
  clear ht hl hw hb5 K4
  clear q0 q1 q2 q3 q4 q5 ql
  obtain ⟨x0, h0⟩ := K5.out.rb.has 0 (by decide)
  obtain ⟨x1, h1⟩ := K5.out.rb.has 1 (by decide)
  obtain ⟨x2, h2⟩ := K5.out.rb.has 2 (by decide)
  obtain ⟨x3, h3⟩ := K5.out.rb.has 3 (by decide)
  obtain ⟨x4, h4⟩ := K5.out.rb.has 4 (by decide)
  obtain ⟨x5, h5⟩ := K5.out.rb.has 5 (by decide)
  have xl := K5.out.rb.lt
  have y0 := K5.out.rb.free 0
  have y1 := K5.out.rb.free 1
  have y2 := K5.out.rb.free 2
  have y3 := K5.out.rb.free 3
  have y4 := K5.out.rb.free 4
  have y5 := K5.out.rb.free 5
  go_wp2
  refine bodyPost_ret (v := .tuple #[(.agg #[.slice t.w.a t.w.n t.w.c, .slice t.p.a t.p.n t.p.c, .slice (t.u 0).a (t.u 0).n (t.u 0).c, .slice (t.u 1).a (t.u 1).n (t.u 1).c, .slice (t.u 2).a (t.u 2).n (t.u 2).c, .slice t.c.a t.c.n t.c.c]), .bool false]) ?_ rfl (bl_end _ _ _ _ _ _ K5.out.bel T5.out.1 T5.out.2.1 T5.out.2.2)
  obtain ⟨k0, k1, k2, k3, k4, k5⟩ := put6_t6 K5.out.rb (.slice t.w.a t.w.n t.w.c) (.slice t.p.a t.p.n t.p.c) (.slice (t.u 0).a (t.u 0).n (t.u 0).c) (.slice (t.u 1).a (t.u 1).n (t.u 1).c) (.slice (t.u 2).a (t.u 2).n (t.u 2).c) (.slice t.c.a t.c.n t.c.c)
  exact res_black rfl rfl k0 k1 k2 k3 k4 k5
set_option maxHeartbeats 4000000 in
theorem black_yes (o e : Bool) (n b m : Int) (d' : Hd_) (hp : Hp w w.heap.size s d) (hk : WRow w w.heap.size k xs) (hF : ∀ W, Bw w W s d k xs → Calls Tryz.prog 76 #[(.agg #[.slice s.w.a s.w.n s.w.c, .slice s.p.a s.p.n s.p.c, .slice (s.u 0).a (s.u 0).n (s.u 0).c, .slice (s.u 1).a (s.u 1).n (s.u 1).c, .slice (s.u 2).a (s.u 2).n (s.u 2).c, .slice s.c.a s.c.n s.c.c]), (.agg #[.int .i64 k.ph, .int .i64 k.ep, .bool k.mj, .slice k.wk.a k.wk.n k.wk.c, .bool k.ov, .int .i64 k.pa, .int .i64 k.pf, .int .i64 k.ps, .int .i64 k.pc, .bool k.me]), .int .i64 a, .int .i64 2] W (FindOut W (.agg #[.bool true, .bool o, .bool e, .int .i64 n, .int .i64 b, .int .i64 m]) true)) (hS : ∀ W, Bw w W s d k xs → Calls Tryz.prog 94 #[(.agg #[.slice s.w.a s.w.n s.w.c, .slice s.p.a s.p.n s.p.c, .slice (s.u 0).a (s.u 0).n (s.u 0).c, .slice (s.u 1).a (s.u 1).n (s.u 1).c, .slice (s.u 2).a (s.u 2).n (s.u 2).c, .slice s.c.a s.c.n s.c.c]), .int .i64 a, (.agg #[.bool true, .bool o, .bool true, .int .i64 n, .int .i64 b, .int .i64 m])] W (SetOkN W s d')) : Calls Tryz.prog 114 #[(.agg #[.slice s.w.a s.w.n s.w.c, .slice s.p.a s.p.n s.p.c, .slice (s.u 0).a (s.u 0).n (s.u 0).c, .slice (s.u 1).a (s.u 1).n (s.u 1).c, .slice (s.u 2).a (s.u 2).n (s.u 2).c, .slice s.c.a s.c.n s.c.c]), (.agg #[.int .i64 k.ph, .int .i64 k.ep, .bool k.mj, .slice k.wk.a k.wk.n k.wk.c, .bool k.ov, .int .i64 k.pa, .int .i64 k.pf, .int .i64 k.ps, .int .i64 k.pc, .bool k.me]), .int .i64 a] w (BlOutN w s d' true) := by
  have HP := Lib.hid hp
  have HK := Lib.hid hk
  have HF := Lib.hid hF
  have HC := Lib.hid hS
  clear hp hk hF hS
  go_enter Tryz.func114, Tryz.ntmps114
  go_upto_region 1 with fail
  obtain ⟨W0, hW0⟩ : ∃ W0, W0 = ((w.alloc (.cells #[.slice s.w.a s.w.n s.w.c, .slice s.p.a s.p.n s.p.c, .slice (s.u 0).a (s.u 0).n (s.u 0).c, .slice (s.u 1).a (s.u 1).n (s.u 1).c, .slice (s.u 2).a (s.u 2).n (s.u 2).c, .slice s.c.a s.c.n s.c.c] 28)).alloc (.cells #[.int .i64 k.ph, .int .i64 k.ep, .bool k.mj, .slice k.wk.a k.wk.n k.wk.c, .bool k.ov, .int .i64 k.pa, .int .i64 k.pf, .int .i64 k.ps, .int .i64 k.pc, .bool k.me] 30)).alloc (.cells #[.slice none 0 0, .slice none 0 0, .slice none 0 0, .slice none 0 0, .slice none 0 0, .slice none 0 0] 28) := ⟨_, rfl⟩
  have K0 := Lib.hid (bw_start HP.out HK.out hW0)
  rw [← hW0]
  clear hW0
  have q0 := (K0.out.hb.box).c0
  have q1 := (K0.out.hb.box).c1
  have q2 := (K0.out.hb.box).c2
  have q3 := (K0.out.hb.box).c3
  have q4 := (K0.out.hb.box).c4
  have q5 := (K0.out.hb.box).c5
  have ql := (K0.out.hb.box).lt
  have p0 := (K0.out.kb).c0
  have p1 := (K0.out.kb).c1
  have p2 := (K0.out.kb).c2
  have p3 := (K0.out.kb).c3
  have p4 := (K0.out.kb).c4
  have p5 := (K0.out.kb).c5
  have p6 := (K0.out.kb).c6
  have p7 := (K0.out.kb).c7
  have p8 := (K0.out.kb).c8
  have p9 := (K0.out.kb).c9
  have pl := (K0.out.kb).lt
  go_wp2_with fail
  refine (HF.out W0 K0.out).mono ?_
  rintro e9 w3 ⟨rfl, hb3⟩
  have K3 := Lib.hid (K0.out.next hb3)
  clear hb3 K0
  clear q0 q1 q2 q3 q4 q5 ql
  clear p0 p1 p2 p3 p4 p5 p6 p7 p8 p9 pl
  go_upto_region 4 with fail
  obtain ⟨W4, hW4⟩ : ∃ W4, W4 = w3.alloc (.cells #[.bool true, .bool o, .bool e, .int .i64 n, .int .i64 b, .int .i64 m] 53) := ⟨_, rfl⟩
  have X4 : Hid (X6 W4 w3.heap.size true o e n b m ∧ ∀ j, W4.frozen? ⟨w3.heap.size, j, none⟩ = false) := Lib.hid ⟨by rw [hW4]; exact X6.new w3 true o e n b m _, fun j => by rw [hW4]; simp [go_sem]⟩
  have hb3 : Below w3.heap.size w3 W4 := by rw [hW4]; exact (Below.refl _ _).alloc (Nat.le_refl _) _
  have K4 := Lib.hid (K3.out.next hb3)
  obtain ⟨b5, hb5⟩ : ∃ b5, b5 = w3.heap.size := ⟨_, rfl⟩
  have V4 : Hid (w.heap.size + 3 ≤ b5) := Lib.hid (by have := K3.out.rb.lt; omega)
  rw [← hb5] at X4
  rw [← hW4, ← hb5]
  clear hW4 hb3 hb5 K3
  have x0 := (X4.out.1).c0
  have x1 := (X4.out.1).c1
  have x2 := (X4.out.1).c2
  have x3 := (X4.out.1).c3
  have x4 := (X4.out.1).c4
  have x5 := (X4.out.1).c5
  have xl := (X4.out.1).lt
  have y2 := X4.out.2 2
  go_upto_region 5 with fail
  obtain ⟨W5, hW5⟩ : ∃ W5, W5 = W4.setCell ⟨b5, 2, none⟩ (.bool true) := ⟨_, rfl⟩
  have hbl5 : Below (w.heap.size + 3) W4 W5 := by rw [hW5]; exact (Below.refl _ _).setCell (p := ⟨b5, 2, none⟩) V4.out _
  have K5 := Lib.hid (K4.out.same hbl5)
  have X5 : Hid (X6 W5 b5 true o true n b m) := Lib.hid (by
    rw [hW5]
    have h := X4.out.1
    exact ⟨cell_set h.c0 rfl, cell_set h.c1 rfl, cell_set h.c2 rfl, cell_set h.c3 rfl, cell_set h.c4 rfl, cell_set h.c5 rfl, by simp only [World.size_setCell]; exact h.lt⟩)
  rw [← hW5]
  clear hW5 hbl5 y2 K4 X4
  clear x0 x1 x2 x3 x4 x5 xl
  have x0 := (X5.out).c0
  have x1 := (X5.out).c1
  have x2 := (X5.out).c2
  have x3 := (X5.out).c3
  have x4 := (X5.out).c4
  have x5 := (X5.out).c5
  have xl := (X5.out).lt
  have q0 := (K5.out.hb.box).c0
  have q1 := (K5.out.hb.box).c1
  have q2 := (K5.out.hb.box).c2
  have q3 := (K5.out.hb.box).c3
  have q4 := (K5.out.hb.box).c4
  have q5 := (K5.out.hb.box).c5
  have ql := (K5.out.hb.box).lt
  go_wp2_with fail
  refine (HC.out W5 K5.out).mono ?_
  rintro e9 w6 ⟨t, rfl, ht, hl, hw, hb6⟩
  have K6 := Lib.hid (K5.out.next hb6)
  have T6 := Lib.hid (And.intro ht (And.intro hl (news_less hw (show w.heap.size + 3 ≤ _ from K5.out.rb.lt))))
  clear ht hl hw hb6 V4
  clear x0 x1 x2 x3 x4 x5 xl
  clear q0 q1 q2 q3 q4 q5 ql
  have q0 := (K6.out.hb.box).c0
  have q1 := (K6.out.hb.box).c1
  have q2 := (K6.out.hb.box).c2
  have q3 := (K6.out.hb.box).c3
  have q4 := (K6.out.hb.box).c4
  have q5 := (K6.out.hb.box).c5
  have ql := (K6.out.hb.box).lt
  have y0 := (K6.out.hb).free 0
  have y1 := (K6.out.hb).free 1
  have y2 := (K6.out.hb).free 2
  have y3 := (K6.out.hb).free 3
  have y4 := (K6.out.hb).free 4
  have y5 := (K6.out.hb).free 5
  go_upto_region 6 with fail
  obtain ⟨W7, hW7⟩ : ∃ W7, W7 = (((((w6.setCell ⟨w.heap.size, 0, none⟩ (.slice t.w.a t.w.n t.w.c)).setCell ⟨w.heap.size, 1, none⟩ (.slice t.p.a t.p.n t.p.c)).setCell ⟨w.heap.size, 2, none⟩ (.slice (t.u 0).a (t.u 0).n (t.u 0).c)).setCell ⟨w.heap.size, 3, none⟩ (.slice (t.u 1).a (t.u 1).n (t.u 1).c)).setCell ⟨w.heap.size, 4, none⟩ (.slice (t.u 2).a (t.u 2).n (t.u 2).c)).setCell ⟨w.heap.size, 5, none⟩ (.slice t.c.a t.c.n t.c.c) := ⟨_, rfl⟩
  have hW7' : W7 = put6 w6 w.heap.size (.slice t.w.a t.w.n t.w.c) (.slice t.p.a t.p.n t.p.c) (.slice (t.u 0).a (t.u 0).n (t.u 0).c) (.slice (t.u 1).a (t.u 1).n (t.u 1).c) (.slice (t.u 2).a (t.u 2).n (t.u 2).c) (.slice t.c.a t.c.n t.c.c) := hW7
  have hs7 : ∀ g, ¬ g = w.heap.size → W7.heap[g]? = w6.heap[g]? := fun g hg => by rw [hW7']; exact put6_other _ _ _ _ _ _ _ _ hg
  have hz7 : w6.heap.size = W7.heap.size := by rw [hW7', put6_size]
  have K7 : Hid (Below w.heap.size w W7 ∧ Hp W7 W7.heap.size t d' ∧ Lens s t ∧ News (w.heap.size + 3) t) := Lib.hid ⟨by rw [hW7']; exact below_put6 K6.out.bel (Nat.le_refl _) _ _ _ _ _ _, T6.out.2.2.kept T6.out.1 (fun g h1 _ => hs7 g (by omega)) (Nat.le_of_eq hz7), T6.out.2.1, T6.out.2.2⟩
  have R7 : Hid (Sh.T6 W7 (w.heap.size + 2)) := Lib.hid (K6.out.rb.same (hs7 _ (by omega)) (Nat.le_of_eq hz7))
  have B7 : Hid (HBox W7 w.heap.size t) := Lib.hid (by
    obtain ⟨k0, k1, k2, k3, k4, k5⟩ := put6_at K6.out.hb (.slice t.w.a t.w.n t.w.c) (.slice t.p.a t.p.n t.p.c) (.slice (t.u 0).a (t.u 0).n (t.u 0).c) (.slice (t.u 1).a (t.u 1).n (t.u 1).c) (.slice (t.u 2).a (t.u 2).n (t.u 2).c) (.slice t.c.a t.c.n t.c.c)
    rw [← hW7'] at k0 k1 k2 k3 k4 k5
    exact ⟨k0, k1, k2, k3, k4, k5, by rw [← hz7]; exact K6.out.hb.box.lt⟩)
  rw [← hW7]
  clear hW7 hW7' hs7 hz7 K6 T6 K5 X5
  clear q0 q1 q2 q3 q4 q5 ql
  clear y0 y1 y2 y3 y4 y5
  have q0 := (B7.out).c0
  have q1 := (B7.out).c1
  have q2 := (B7.out).c2
  have q3 := (B7.out).c3
  have q4 := (B7.out).c4
  have q5 := (B7.out).c5
  have ql := (B7.out).lt
  obtain ⟨x0, h0⟩ := R7.out.has 0 (by decide)
  obtain ⟨x1, h1⟩ := R7.out.has 1 (by decide)
  obtain ⟨x2, h2⟩ := R7.out.has 2 (by decide)
  obtain ⟨x3, h3⟩ := R7.out.has 3 (by decide)
  obtain ⟨x4, h4⟩ := R7.out.has 4 (by decide)
  obtain ⟨x5, h5⟩ := R7.out.has 5 (by decide)
  have xl := R7.out.lt
  have y0 := R7.out.free 0
  have y1 := R7.out.free 1
  have y2 := R7.out.free 2
  have y3 := R7.out.free 3
  have y4 := R7.out.free 4
  have y5 := R7.out.free 5
  go_wp2
  refine bodyPost_ret (v := .tuple #[(.agg #[.slice t.w.a t.w.n t.w.c, .slice t.p.a t.p.n t.p.c, .slice (t.u 0).a (t.u 0).n (t.u 0).c, .slice (t.u 1).a (t.u 1).n (t.u 1).c, .slice (t.u 2).a (t.u 2).n (t.u 2).c, .slice t.c.a t.c.n t.c.c]), .bool true]) ?_ rfl (bl_end _ _ _ _ _ _ K7.out.1 K7.out.2.1 K7.out.2.2.1 K7.out.2.2.2)
  obtain ⟨k0, k1, k2, k3, k4, k5⟩ := put6_t6 R7.out (.slice t.w.a t.w.n t.w.c) (.slice t.p.a t.p.n t.p.c) (.slice (t.u 0).a (t.u 0).n (t.u 0).c) (.slice (t.u 1).a (t.u 1).n (t.u 1).c) (.slice (t.u 2).a (t.u 2).n (t.u 2).c) (.slice t.c.a t.c.n t.c.c)
  exact res_black rfl rfl k0 k1 k2 k3 k4 k5
theorem black_new (hp : Hp w w.heap.size s d) (hk : WRow w w.heap.size k xs) (hz : Cl.Sz w) (hf : Fine s d) : Calls Tryz.prog 114 #[(.agg #[.slice s.w.a s.w.n s.w.c, .slice s.p.a s.p.n s.p.c, .slice (s.u 0).a (s.u 0).n (s.u 0).c, .slice (s.u 1).a (s.u 1).n (s.u 1).c, .slice (s.u 2).a (s.u 2).n (s.u 2).c, .slice s.c.a s.c.n s.c.c]), (.agg #[.int .i64 k.ph, .int .i64 k.ep, .bool k.mj, .slice k.wk.a k.wk.n k.wk.c, .bool k.ov, .int .i64 k.pa, .int .i64 k.pf, .int .i64 k.ps, .int .i64 k.pc, .bool k.me]), .int .i64 a] w (BlOutN w s (blD s d k.mj k.ep a) (isC s d k.mj k.ep a 2)) := by
  have hF := fun (W : World) (h : Bw w W s d k xs) => find_any s d k xs a 2 W h.hp h.wr (hz.over h.bel hz.pos) hf
  unfold blD
  by_cases hc : isC s d k.mj k.ep a 2 = true
  · obtain ⟨h1, h2, h3⟩ := isC_iff.1 hc
    have ho := obj_of h2
    have hv : findV s d k.mj k.ep a 2 = headOf (wd d a) := if_pos hc
    rw [if_pos hc, hc]
    rw [hv, headOf_yes ho.word, decide_eq_true ho.odd, hc] at hF
    have p := ho.parts
    exact black_yes s d k xs a w _ _ _ _ _ _ hp hk hF fun W h => set_okn _ _ _ _ _ _ _ _ _ h.hp (hz.over h.bel hz.pos) hf h2 _ _ _ _ ho.val ho.may (ho.fits true p.2.2.2.2.1 p.2.2.2.2.2)
  · have hc' : isC s d k.mj k.ep a 2 = false := by simpa using hc
    obtain ⟨z0, z1, z2, z3, z4, z5, hv⟩ := find_form s d k.mj k.ep a 2
    rw [if_neg hc, hc']
    rw [hv, hc'] at hF
    exact black_no s d k xs a w _ _ _ _ _ _ hp hk hF fun W h => fresh_all s d W h.hp hf
theorem black_any (hp : Hp w w.heap.size s d) (hk : WRow w w.heap.size k xs) (hz : Cl.Sz w) (hf : Fine s d) : Calls Tryz.prog 114 #[(.agg #[.slice s.w.a s.w.n s.w.c, .slice s.p.a s.p.n s.p.c, .slice (s.u 0).a (s.u 0).n (s.u 0).c, .slice (s.u 1).a (s.u 1).n (s.u 1).c, .slice (s.u 2).a (s.u 2).n (s.u 2).c, .slice s.c.a s.c.n s.c.c]), (.agg #[.int .i64 k.ph, .int .i64 k.ep, .bool k.mj, .slice k.wk.a k.wk.n k.wk.c, .bool k.ov, .int .i64 k.pa, .int .i64 k.pf, .int .i64 k.ps, .int .i64 k.pc, .bool k.me]), .int .i64 a] w (BlOut w s (blD s d k.mj k.ep a) (isC s d k.mj k.ep a 2)) :=
  (black_new s d k xs a w hp hk hz hf).mono fun _ _ ⟨t, h1, h2, h3, _, h5⟩ => ⟨t, h1, h2, h3, h5⟩
theorem shade_any (hn : xs.length ≤ 1000000) (hp : Hp w w.heap.size s d) (hk : WRow w w.heap.size k xs) (hz : Cl.Sz w) (hf : Fine s d) : Calls Tryz.prog 60 #[(.agg #[.slice s.w.a s.w.n s.w.c, .slice s.p.a s.p.n s.p.c, .slice (s.u 0).a (s.u 0).n (s.u 0).c, .slice (s.u 1).a (s.u 1).n (s.u 1).c, .slice (s.u 2).a (s.u 2).n (s.u 2).c, .slice s.c.a s.c.n s.c.c]), (.agg #[.int .i64 k.ph, .int .i64 k.ep, .bool k.mj, .slice k.wk.a k.wk.n k.wk.c, .bool k.ov, .int .i64 k.pa, .int .i64 k.pf, .int .i64 k.ps, .int .i64 k.pc, .bool k.me]), .int .i64 a] w (ShOut w s k (shD s d k.mj k.ep a) (shO (isC s d k.mj k.ep a 1) xs k.ov) (shX (isC s d k.mj k.ep a 1) xs a)) := by
  have hF := fun (W : World) (h : Sw w W s d k xs) => find_any s d k xs a 1 W h.hp h.wr (hz.over h.bel hz.pos) hf
  unfold shD
  by_cases hc : isC s d k.mj k.ep a 1 = true
  · obtain ⟨h1, h2, h3⟩ := isC_iff.1 hc
    have ho := obj_of h2
    have hv : findV s d k.mj k.ep a 1 = headOf (wd d a) := if_pos hc
    rw [if_pos hc, hc]
    rw [hv, headOf_yes ho.word, decide_eq_true ho.odd, hc] at hF
    exact shade_yes s d k xs a w _ _ _ _ _ _ _ _ rfl rfl hn hp hk hF fun W h => set_okn _ _ _ _ _ _ _ _ _ h.hp (hz.over h.bel hz.pos) hf h2 _ _ _ _ ho.val ho.may (ho.fits false h1.1 h1.2)
  · have hc' : isC s d k.mj k.ep a 1 = false := by simpa using hc
    obtain ⟨z0, z1, z2, z3, z4, z5, hv⟩ := find_form s d k.mj k.ep a 1
    rw [if_neg hc, hc', show shO false xs k.ov = k.ov by simp [shO], show shX false xs a = xs from if_neg (by simp)]
    rw [hv, hc'] at hF
    exact shade_no s d k xs a w _ _ _ _ _ _ hn hp hk hF fun W h => fresh_all s d W h.hp hf
end
end Go.Proofs.YtccjelpfmkbmiaaGreatDoor.Sh
end
section
namespace Go.Proofs.YtccjelpfmkbmiaaGreatDoor.Rt
open Go.Proofs.YtccjelpfmkbmiaaGreatDoor
open Go.RowKit
set_option maxRecDepth 100000

/-- A block of its own that holds these cells, and may be stored to. -/
structure Box (W : World) (b : Nat) (vs : List Value) : Prop where
  cel : ∀ j v, vs[j]? = some v → W.cell? ⟨b, j, none⟩ = some v
  free : ∀ j, W.frozen? ⟨b, j, none⟩ = false
  lt : b < W.heap.size
/-- A whole value is stored, from a cell on. -/
def puts (b : Nat) : Nat → List Value → World → World
  | _, [], w => w
  | j, v :: vs, w => puts b (j + 1) vs (w.setCell ⟨b, j, none⟩ v)
section
variable {W W' : World} {b k : Nat} {vs us : List Value}
theorem Box.new (w : World) (vs : List Value) (t : TypeId) : Box (w.alloc (.cells vs.toArray t)) w.heap.size vs :=
  ⟨fun j v h => by rw [World.cell?_alloc_new]; simpa using h, fun j => by simp, by simp⟩
theorem Box.same (h : Box W b vs) (hs : W'.heap[b]? = W.heap[b]?) (hl : W.heap.size ≤ W'.heap.size) : Box W' b vs :=
  ⟨fun j v e => (World.cell?_of_block (a := ⟨b, j, none⟩) hs).trans (h.cel j v e), fun j => (World.frozen?_of_block (a := ⟨b, j, none⟩) hs).trans (h.free j), Nat.lt_of_lt_of_le h.lt hl⟩
theorem Box.next (h : Box W b vs) (hb : Below W.heap.size W W') : Box W' b vs := h.same (hb.block b h.lt) hb.size
theorem Box.other (h : Box W b vs) {p : Addr} (hp : ¬ b = p.block) (x : Value) : Box (W.setCell p x) b vs := h.same (Below.heap_setCell _ _ _ _ hp) (by simp [World.setCell])
theorem Box.set (h : Box W b vs) (k : Nat) (x : Value) : Box (W.setCell ⟨b, k, none⟩ x) b (vs.set k x) := by
  refine ⟨fun j v e => ?_, fun j => by rw [World.frozen?_setCell]; exact h.free j, by simpa [World.setCell] using h.lt⟩
  by_cases hk : k = j
  · subst hk
    have hlt : k < vs.length := by
      have := (List.getElem?_eq_some_iff.1 e).1
      simpa using this
    have : v = x := by simpa [hlt] using e.symm
    subst this
    exact World.cell?_setCell_same' _ _ _ (by rw [h.cel k _ (List.getElem?_eq_getElem hlt)]; rfl)
  · rw [List.getElem?_set_ne hk] at e
    rw [World.cell?_setCell_other _ _ _ _ (by intro hh; simp only [Addr.mk.injEq, true_and, and_true] at hh; exact hk hh)]
    exact h.cel j v e
theorem puts_other (b : Nat) : ∀ (vs : List Value) (j : Nat) (w : World) {k : Nat}, ¬ k = b → (puts b j vs w).heap[k]? = w.heap[k]?
  | [], _, _, _, _ => rfl
  | _ :: vs, j, _, _, hk => (puts_other b vs (j + 1) _ hk).trans (Below.heap_setCell _ _ _ _ hk)
theorem puts_size (b : Nat) : ∀ (vs : List Value) (j : Nat) (w : World), (puts b j vs w).heap.size = w.heap.size
  | [], _, _ => rfl
  | _ :: vs, j, _ => (puts_size b vs (j + 1) _).trans (by simp [World.setCell])
theorem below_puts {B : Nat} {a : World} (b : Nat) (hb : B ≤ b) : ∀ (vs : List Value) (j : Nat) (w : World), Below B a w → Below B a (puts b j vs w)
  | [], _, _, h => h
  | v :: vs, j, _, h => below_puts b hb vs (j + 1) _ (h.setCell (p := ⟨b, j, none⟩) hb v)
/-- .. a list of cells, from one on, others. -/
def sets : Nat → List Value → List Value → List Value
  | _, [], us => us
  | j, v :: vs, us => sets (j + 1) vs (us.set j v)
theorem Box.puts : ∀ (vs : List Value) (j : Nat) {us : List Value} {w : World}, Box w b us → Box (puts b j vs w) b (sets j vs us)
  | [], _, _, _, h => h
  | v :: vs, j, _, _, h => Box.puts vs (j + 1) (h.set j v)
end

/-- An operation: its kind, and three numbers. -/
structure O4 where
  k : Int
  a : Int
  b : Int
  c : Int
/-- The slice holds the operations g 0 to g (n - 1), in a block below B. -/
def ORow (w : World) (B : Nat) (a : Option Addr) (n : Nat) (g : Nat → O4) : Prop :=
  0 < n → ∃ b off, a = some ⟨b, off, none⟩ ∧ b < B ∧ ∀ i, i < n → w.cell? ⟨b, off + i * 4, none⟩ = some (.int .i64 (g i).k) ∧ w.cell? ⟨b, off + i * 4 + 1, none⟩ = some (.int .i64 (g i).a) ∧ w.cell? ⟨b, off + i * 4 + 2, none⟩ = some (.int .i64 (g i).b) ∧ w.cell? ⟨b, off + i * 4 + 3, none⟩ = some (.int .i64 (g i).c)
section
variable {w w' : World} {B B' n : Nat} {a : Option Addr} {g : Nat → O4}
theorem ORow.below (h : ORow w B a n g) (hb : Below B w w') : ORow w' B a n g := fun hn => by
  obtain ⟨b, off, e, hlt, hc⟩ := h hn
  exact ⟨b, off, e, hlt, fun i hi => ⟨(hb.cell (p := ⟨b, off + i * 4, none⟩) hlt).trans (hc i hi).1, (hb.cell (p := ⟨b, off + i * 4 + 1, none⟩) hlt).trans (hc i hi).2.1, (hb.cell (p := ⟨b, off + i * 4 + 2, none⟩) hlt).trans (hc i hi).2.2.1, (hb.cell (p := ⟨b, off + i * 4 + 3, none⟩) hlt).trans (hc i hi).2.2.2⟩⟩
theorem ORow.same (h : ORow w B a n g) (hs : 0 < n → ∀ x, a = some x → w'.heap[x.block]? = w.heap[x.block]?) : ORow w' B a n g := fun hn => by
  obtain ⟨b, off, e, hlt, hc⟩ := h hn
  have hb := hs hn _ e
  exact ⟨b, off, e, hlt, fun i hi => ⟨(World.cell?_of_block (a := ⟨b, off + i * 4, none⟩) hb).trans (hc i hi).1, (World.cell?_of_block (a := ⟨b, off + i * 4 + 1, none⟩) hb).trans (hc i hi).2.1, (World.cell?_of_block (a := ⟨b, off + i * 4 + 2, none⟩) hb).trans (hc i hi).2.2.1, (World.cell?_of_block (a := ⟨b, off + i * 4 + 3, none⟩) hb).trans (hc i hi).2.2.2⟩⟩
theorem ORow.more (h : ORow w B a n g) (hB : B ≤ B') : ORow w B' a n g := fun hn => by
  obtain ⟨b, off, e, hb, hc⟩ := h hn
  exact ⟨b, off, e, by omega, hc⟩
theorem ORow.next (h : ORow w w.heap.size a n g) (hb : Below w.heap.size w w') : ORow w' w'.heap.size a n g := (h.below hb).more hb.size
theorem ORow.empty (w : World) (B : Nat) (a : Option Addr) (g : Nat → O4) : ORow w B a 0 g := fun h => absurd h (by omega)
/-- The operations' cells. -/
def o4c (x : O4) : Nat → Value
  | 0 => .int .i64 x.k
  | 1 => .int .i64 x.a
  | 2 => .int .i64 x.b
  | _ => .int .i64 x.c
def ocell (g : Nat → O4) (j : Nat) : Value := o4c (g (j / 4)) (j % 4)
def ocells (g : Nat → O4) (n : Nat) : List Value := (List.range (n * 4)).map (ocell g)
theorem ocells_get (g : Nat → O4) (n j : Nat) (h : j < n * 4) : (ocells g n)[j]? = some (ocell g j) := by simp [ocells, h]
theorem ocells_at (g : Nat → O4) (n i r : Nat) (h : i < n) (hr : r < 4) : (ocells g n)[i * 4 + r]? = some (o4c (g i) r) := by
  rw [ocells_get g n _ (by omega), ocell, show (i * 4 + r) / 4 = i by omega, show (i * 4 + r) % 4 = r by omega]
theorem ORow.src {b off : Nat} (hc : ∀ i, i < n → w.cell? ⟨b, off + i * 4, none⟩ = some (.int .i64 (g i).k) ∧ w.cell? ⟨b, off + i * 4 + 1, none⟩ = some (.int .i64 (g i).a) ∧ w.cell? ⟨b, off + i * 4 + 2, none⟩ = some (.int .i64 (g i).b) ∧ w.cell? ⟨b, off + i * 4 + 3, none⟩ = some (.int .i64 (g i).c))
    (j : Nat) (u : Value) (hj : (ocells g n)[j]? = some u) : w.cell? ⟨b, off + j, none⟩ = some u := by
  have hlt : j < n * 4 := by
    have := (List.getElem?_eq_some_iff.1 hj).1
    simpa [ocells] using this
  obtain ⟨h0, h1, h2, h3⟩ := hc (j / 4) (by omega)
  have e := ocells_at g n (j / 4) (j % 4) (by omega) (by omega)
  rw [show j / 4 * 4 + j % 4 = j by omega, hj] at e
  cases e
  rcases (show j % 4 = 0 ∨ j % 4 = 1 ∨ j % 4 = 2 ∨ j % 4 = 3 by omega) with r | r | r | r <;> rw [r]
  · rw [show off + j = off + j / 4 * 4 by omega]; exact h0
  · rw [show off + j = off + j / 4 * 4 + 1 by omega]; exact h1
  · rw [show off + j = off + j / 4 * 4 + 2 by omega]; exact h2
  · rw [show off + j = off + j / 4 * 4 + 3 by omega]; exact h3
end

/-- A thread: registers, cache and operations by where they lie. -/
structure Ts where
  lv : Bool
  r : Nat → Int
  u : Nat → Ls.Sl
  ep : Int
  sg : Int
  rt : Int
  o : Ls.Sl
  pc : Int
  x : Int
  y : Int
/-- What a thread has in memory. -/
structure Th (w : World) (B : Nat) (t : Ts) (F : Nat → List Int) (g : Nat → O4) : Prop where
  c : Ls.L3 w B t.u F
  o : ORow w B t.o.a t.o.n g
  k : t.o.n ≤ t.o.c
section
variable {w w' : World} {B B' : Nat} {t : Ts} {F : Nat → List Int} {g : Nat → O4}
theorem Th.next (h : Th w w.heap.size t F g) (hb : Below w.heap.size w w') : Th w' w'.heap.size t F g := ⟨h.c.next hb, h.o.next hb, h.k⟩
theorem Th.below (h : Th w B t F g) (hb : Below B w w') : Th w' B t F g := ⟨h.c.below hb, h.o.below hb, h.k⟩
theorem Th.over (h : Th w w.heap.size t F g) (hb : Below w.heap.size w w') : Th w' w'.heap.size t F g := h.next hb
end
end Go.Proofs.YtccjelpfmkbmiaaGreatDoor.Rt
end
section
namespace Go.Proofs.YtccjelpfmkbmiaaGreatDoor.Rt
open Go.Proofs.YtccjelpfmkbmiaaGreatDoor
open Go.RowKit
set_option maxRecDepth 100000

/-- Where it may hold an address, and what it holds. -/
def six (t : Ts) : List Int := [t.r 0, t.r 1, t.r 2, t.r 3, t.x, t.y]
end Go.Proofs.YtccjelpfmkbmiaaGreatDoor.Rt
end
section
namespace Go.Proofs.YtccjelpfmkbmiaaGreatDoor.Mu
open Go.Proofs.YtccjelpfmkbmiaaGreatDoor Go.Proofs.YtccjelpfmkbmiaaGreatDoor.Rt
open Go.RowKit
set_option maxRecDepth 100000

def hv (s : Hs) : List Value := [.slice s.w.a s.w.n s.w.c, .slice s.p.a s.p.n s.p.c, .slice (s.u 0).a (s.u 0).n (s.u 0).c, .slice (s.u 1).a (s.u 1).n (s.u 1).c, .slice (s.u 2).a (s.u 2).n (s.u 2).c, .slice s.c.a s.c.n s.c.c]
def kv (k : Sh.Ks) : List Value := [.int .i64 k.ph, .int .i64 k.ep, .bool k.mj, .slice k.wk.a k.wk.n k.wk.c, .bool k.ov, .int .i64 k.pa, .int .i64 k.pf, .int .i64 k.ps, .int .i64 k.pc, .bool k.me]
def o0 : O4 := ⟨0, 0, 0, 0⟩
def noHs0 : Hs := ⟨⟨none, 0, 0⟩, ⟨none, 0, 0⟩, Ls.noSl, ⟨none, 0, 0⟩⟩
def noK0 : Sh.Ks := ⟨0, 0, false, ⟨none, 0, 0⟩, false, 0, 0, 0, 0, false⟩
/-- A part of a box. -/
def Part (vs : List Value) (o : Nat) (cs : List Value) : Prop := ∀ j v, cs[j]? = some v → vs[o + j]? = some v
section
variable {W : World} {b o : Nat} {vs cs : List Value}
theorem ld (h : Box W b vs) (hp : Part vs o cs) (ty : TypeId) {d : TypeDesc} (hu : Tryz.prog.underlying ty = some d) (hd : d.isRow = true) (hi : (Tryz.prog.info? ty).map (·.size) = some cs.length) :
    (Instr.loadAt ty (.pointer (some ⟨b, o, none⟩))).run Tryz.prog W = .ok (.agg cs.toArray) W :=
  run_loadAt_mid W b o ty cs d (fun j v hj => h.cel (o + j) v (hp j v hj)) hu hd hi
theorem setCells_puts (b : Nat) : ∀ (cs : List Value) (o : Nat) (W : World), W.setCells b o cs = puts b o cs W := by
  intro cs
  induction cs with
  | nil => intro o W; rfl
  | cons c cs ih => intro o W; first | exact ih (o + 1) _ | (simp only [World.setCells, puts]; exact ih (o + 1) _)
theorem st (h : Box W b vs) (hn : o + cs.length ≤ vs.length) (ty : TypeId) (hi : (Tryz.prog.info? ty).map (·.size) = some cs.length) (h1 : cs.toArray.all (·.oneCell') = true) :
    (Instr.storeAt ty (.pointer (some ⟨b, o, none⟩)) (.agg cs.toArray)).run Tryz.prog W = .ok () (puts b o cs W) := by
  rw [← setCells_puts]
  have := run_storeAt_mid (P := Tryz.prog) W b o ty cs.toArray (fun j hj => ⟨by
    have hj' : o + j < vs.length := by simp at hj; omega
    rw [h.cel (o + j) _ (List.getElem?_eq_getElem hj')]
    rfl, h.free _⟩) (by simpa using hi) h1
  simpa using this
end
end Go.Proofs.YtccjelpfmkbmiaaGreatDoor.Mu
end
section
namespace Go.Proofs.YtccjelpfmkbmiaaGreatDoor.Mu
open Go.Proofs.YtccjelpfmkbmiaaGreatDoor Go.Proofs.YtccjelpfmkbmiaaGreatDoor.Rt
open Go.RowKit
set_option maxRecDepth 100000

theorem Part.refl (vs : List Value) : Part vs 0 vs := fun j v h => by rw [Nat.zero_add]; exact h
theorem sets_eq : ∀ (vs : List Value) (j : Nat) (us : List Value), j + vs.length ≤ us.length → sets j vs us = us.take j ++ vs ++ us.drop (j + vs.length)
  | [], j, us, _ => by simp [sets]
  | v :: vs, j, us, h => by
    have hl : j + 1 + vs.length ≤ (us.set j v).length := by simp at h ⊢; omega
    have hj : j < us.length := by simp at h; omega
    show sets (j + 1) vs (us.set j v) = _
    rw [sets_eq vs (j + 1) (us.set j v) hl, List.drop_set_of_lt (by omega), show j + (v :: vs).length = j + 1 + vs.length by simp; omega]
    have : (us.set j v).take (j + 1) = us.take j ++ [v] := by
      rw [List.take_succ_eq_append_getElem (by simpa using hj), List.getElem_set_self, List.take_set_of_le (Nat.le_refl _)]
    rw [this]
    simp
theorem infH : (Tryz.prog.info? 28).map (·.size) = some 6 := by kernel_rfl
theorem infK : (Tryz.prog.info? 30).map (·.size) = some 10 := by kernel_rfl
section
variable {w W W0 : World} {ops : Array Oper} {rest : List Oper} {o : Oper} {a : Act} {Q : Exit → Act → World → Prop}
theorem w_load {x : Operand} {ty : TypeId} {p v : Value} (hr : (Instr.loadAt ty p).run Tryz.prog W0 = .ok v W0) (hw : W = W0) (hgd : o.guard = none) (ho : o.op = .load ty x) (hx : a.eval x = p) (hK : wpList Tryz.prog ops Q rest (a.put o.dst v) W) : wpList Tryz.prog ops Q (o :: rest) a W :=
  wpList_plain hgd fun _ hK' => by
    subst hw
    unfold Oper.wp execOp
    simp only [ho, hx, Sem.run_bind, hr, Result.andThen_ok]
    exact hK' _ _ hK
theorem w_store {x y : Operand} {ty : TypeId} {p v : Value} {W' : World} (hr : (Instr.storeAt ty p v).run Tryz.prog W0 = .ok () W') (hw : W = W0) (hgd : o.guard = none) (ho : o.op = .store ty x y) (hx : a.eval x = p) (hy : a.eval y = v) (hK : wpList Tryz.prog ops Q rest (a.put o.dst undef) W') : wpList Tryz.prog ops Q (o :: rest) a W :=
  wpList_plain hgd fun _ hK' => by
    subst hw
    unfold Oper.wp execOp
    simp only [ho, hx, hy, Sem.run_bind, hr, Result.andThen_ok]
    exact hK' _ _ hK
theorem w_loadg {x : Operand} {ty : TypeId} {p v : Value} (hr : (Instr.loadAt ty p).run Tryz.prog W0 = .ok v W0) (hw : W = W0) (hgd : Region.wanted o (yielded ops a.tmps) = true) (ho : o.op = .load ty x) (hx : a.eval x = p) (hK : wpList Tryz.prog ops Q rest (a.put o.dst v) W) : wpList Tryz.prog ops Q (o :: rest) a W := by
  subst hw
  refine wpList_step fun K hK' => ?_
  rw [if_pos hgd]
  unfold Oper.wp execOp
  simp only [ho, hx, Sem.run_bind, hr, Result.andThen_ok]
  exact hK' _ _ hK
end
section
variable {W : World} {b : Nat} {vs : List Value} {s : Hs} {k : Sh.Ks} {t : Ts}
/-- Loads of whole values, and stores. -/
theorem ldHb (h : Box W b (hv s)) : (Instr.loadAt 28 (.pointer (some ⟨b, 0, none⟩))).run Tryz.prog W = .ok (.agg #[.slice s.w.a s.w.n s.w.c, .slice s.p.a s.p.n s.p.c, .slice (s.u 0).a (s.u 0).n (s.u 0).c, .slice (s.u 1).a (s.u 1).n (s.u 1).c, .slice (s.u 2).a (s.u 2).n (s.u 2).c, .slice s.c.a s.c.n s.c.c]) W := ld h (cs := hv s) (Part.refl _) _ Tryz.underlying28 rfl infH
theorem ldKb (h : Box W b (kv k)) : (Instr.loadAt 30 (.pointer (some ⟨b, 0, none⟩))).run Tryz.prog W = .ok (.agg #[.int .i64 k.ph, .int .i64 k.ep, .bool k.mj, .slice k.wk.a k.wk.n k.wk.c, .bool k.ov, .int .i64 k.pa, .int .i64 k.pf, .int .i64 k.ps, .int .i64 k.pc, .bool k.me]) W := ld h (cs := kv k) (Part.refl _) _ Tryz.underlying30 rfl infK
theorem stHb (h : Box W b vs) (hl : vs.length = 6) (x : Hs) : (Instr.storeAt 28 (.pointer (some ⟨b, 0, none⟩)) (.agg #[.slice x.w.a x.w.n x.w.c, .slice x.p.a x.p.n x.p.c, .slice (x.u 0).a (x.u 0).n (x.u 0).c, .slice (x.u 1).a (x.u 1).n (x.u 1).c, .slice (x.u 2).a (x.u 2).n (x.u 2).c, .slice x.c.a x.c.n x.c.c])).run Tryz.prog W = .ok () (puts b 0 (hv x) W) := st h (cs := hv x) (by rw [hl]; exact Nat.le_refl 6) _ infH (by kernel_rfl)
theorem stKb (h : Box W b vs) (hl : vs.length = 10) (x : Sh.Ks) : (Instr.storeAt 30 (.pointer (some ⟨b, 0, none⟩)) (.agg #[.int .i64 x.ph, .int .i64 x.ep, .bool x.mj, .slice x.wk.a x.wk.n x.wk.c, .bool x.ov, .int .i64 x.pa, .int .i64 x.pf, .int .i64 x.ps, .int .i64 x.pc, .bool x.me])).run Tryz.prog W = .ok () (puts b 0 (kv x) W) := st h (cs := kv x) (by rw [hl]; exact Nat.le_refl 10) _ infK (by kernel_rfl)
/-- One cell is stored. -/
theorem st_int (h : Box W b vs) {j : Nat} (hj : j < vs.length) (x : Int) : (Instr.storeAt 3 (.pointer (some ⟨b, j, none⟩)) (.int .i64 x)).run Tryz.prog W = .ok () (W.setCell ⟨b, j, none⟩ (.int .i64 x)) := by
  have c := h.cel j _ (List.getElem?_eq_getElem hj)
  have f := h.free j
  go_simp
theorem ld_int (h : Box W b vs) {j : Nat} {x : Int} (hj : vs[j]? = some (.int .i64 x)) : (Instr.loadAt 3 (.pointer (some ⟨b, j, none⟩))).run Tryz.prog W = .ok (.int .i64 x) W := by
  have c := h.cel j _ hj
  go_simp
theorem st_ints (h : Box W b vs) {j : Nat} (hj : j < vs.length) (x : Ls.Sl) : (Instr.storeAt 22 (.pointer (some ⟨b, j, none⟩)) (.slice x.a x.n x.c)).run Tryz.prog W = .ok () (W.setCell ⟨b, j, none⟩ (.slice x.a x.n x.c)) := by
  have c := h.cel j _ (List.getElem?_eq_getElem hj)
  have f := h.free j
  go_simp
theorem st_bool (h : Box W b vs) {j : Nat} (hj : j < vs.length) (x : Bool) : (Instr.storeAt 4 (.pointer (some ⟨b, j, none⟩)) (.bool x)).run Tryz.prog W = .ok () (W.setCell ⟨b, j, none⟩ (.bool x)) := by
  have c := h.cel j _ (List.getElem?_eq_getElem hj)
  have f := h.free j
  go_simp
/-- A box is filled anew. -/
theorem box_all {us : List Value} (h : Box W b vs) (hl : vs.length = us.length) : Box (puts b 0 us W) b us := by
  have := Box.puts us 0 h
  rw [sets_eq us 0 vs (by omega), show vs.take 0 ++ us ++ vs.drop (0 + us.length) = us by simp [← hl]] at this
  exact this
end
end Go.Proofs.YtccjelpfmkbmiaaGreatDoor.Mu
end
section
namespace Go.Proofs.YtccjelpfmkbmiaaGreatDoor.Mu
open Go.Proofs.YtccjelpfmkbmiaaGreatDoor Go.Proofs.YtccjelpfmkbmiaaGreatDoor.Rt
open Go.RowKit
set_option maxRecDepth 100000

/-- A slice lies apart from a block. -/
def Off (b : Nat) (s : Ls.Sl) : Prop := 0 < s.n → ∀ x, s.a = some x → ¬ x.block = b
structure OffH (b : Nat) (s : Hs) : Prop where
  w : Off b s.w
  p : Off b s.p
  u : ∀ j, j < 3 → Off b (s.u j)
  c : Off b s.c
section
variable {w W W' : World} {B n b : Nat} {a : Option Addr} {xs : List Int} {s : Hs} {t : Ts} {d : Hd_} {F : Nat → List Int} {g : Nat → O4}
theorem row_lies (h : Row w B a n xs) : 0 < n → ∀ x, a = some x → x.block < B := fun hn x hx => by
  obtain ⟨b, off, e, hlt, _⟩ := h.2 hn
  rw [hx] at e
  cases e
  exact hlt
theorem row_keep (h : Row w B a n xs) (hs : 0 < n → ∀ x, a = some x → W.heap[x.block]? = w.heap[x.block]?) : Row W B a n xs :=
  ⟨h.1, fun hn => by
    obtain ⟨b, off, e, hlt, hc⟩ := h.2 hn
    have hb := hs hn _ e
    exact ⟨b, off, e, hlt, fun i hi => (World.cell?_of_block (w := w) (w' := W) (a := ⟨b, off + i, none⟩) hb).trans (hc i hi)⟩⟩
theorem prow_lies {f : Nat → Int × Int} (h : Cl.PRow w B a n f) : 0 < n → ∀ x, a = some x → x.block < B := fun hn x hx => by
  obtain ⟨b, off, e, hlt, _⟩ := h hn
  rw [hx] at e
  cases e
  exact hlt
theorem prow_keep {f : Nat → Int × Int} (h : Cl.PRow w B a n f) (hs : 0 < n → ∀ x, a = some x → W.heap[x.block]? = w.heap[x.block]?) : Cl.PRow W B a n f := fun hn => by
  obtain ⟨b, off, e, hlt, hc⟩ := h hn
  have hb := hs hn _ e
  exact ⟨b, off, e, hlt, fun i hi => ⟨(World.cell?_of_block (w := w) (w' := W) (a := ⟨b, off + i * 2, none⟩) hb).trans (hc i hi).1, (World.cell?_of_block (w := w) (w' := W) (a := ⟨b, off + i * 2 + 1, none⟩) hb).trans (hc i hi).2⟩⟩
theorem brow_lies {f : Nat → Bool} (h : BRow w B a n f) : 0 < n → ∀ x, a = some x → x.block < B := fun hn x hx => by
  obtain ⟨b, off, e, hlt, _⟩ := h hn
  rw [hx] at e
  cases e
  exact hlt
theorem brow_keep {f : Nat → Bool} (h : BRow w B a n f) (hs : 0 < n → ∀ x, a = some x → W.heap[x.block]? = w.heap[x.block]?) : BRow W B a n f := fun hn => by
  obtain ⟨b, off, e, hlt, hc⟩ := h hn
  have hb := hs hn _ e
  exact ⟨b, off, e, hlt, fun i hi => (World.cell?_of_block (w := w) (w' := W) (a := ⟨b, off + i, none⟩) hb).trans (hc i hi)⟩
end
section
variable {w W : World} {B b : Nat} {s : Hs} {t : Ts} {d : Hd_} {F : Nat → List Int} {g : Nat → O4}
theorem hp_off (h : Hp w B s d) (ha : OffH b s) (hs : ∀ k, ¬ k = b → W.heap[k]? = w.heap[k]?) : Hp W B s d :=
  have k := fun {u : Ls.Sl} (h : Off b u) (hn : 0 < u.n) x hx => hs x.block (h hn x hx)
  ⟨row_keep h.words (k ha.w), prow_keep h.pages (k ha.p), fun j hj => ⟨row_keep (h.free j hj).1 (k (ha.u j hj)), (h.free j hj).2⟩, brow_keep h.cards (k ha.c)⟩
theorem offh_old (h : Hp w b s d) : OffH b s := ⟨fun hn x hx => by have := row_lies h.words hn x hx; omega, fun hn x hx => by have := prow_lies h.pages hn x hx; omega, fun j hj hn x hx => by have := row_lies (h.free j hj).1 hn x hx; omega, fun hn x hx => by have := brow_lies h.cards hn x hx; omega⟩
end
theorem all_row9 {w w' : World} {s : Ls.Sl} {xs : List Int} (ho : w'.ownsRow w.heap.size 3 1 (.slice s.a s.n s.c) s.n (xs.map (Value.int .i64))) : Row w' w'.heap.size s.a s.n xs := by
  obtain ⟨a1, c1, e1, r1, _, _⟩ := Ls.owns_row ho
  simp only [Value.slice.injEq, true_and] at e1
  obtain ⟨rfl, rfl⟩ := e1
  exact r1
end Go.Proofs.YtccjelpfmkbmiaaGreatDoor.Mu
end
section
namespace Go.Proofs.YtccjelpfmkbmiaaGreatDoor
open Go.RowKit

section
variable {P : Program} {ops : Array Oper} {Q : Exit → Act → World → Prop} {md : Region.Mode}
theorem wpAny_inv (Inv : (Nat → Bool) → Act → World → Prop) (hdag : ∀ (i : Nat) (o : Oper), ops[i]? = some o → ∀ e ∈ o.after, Region.binds md e = true → e.on < i)
    (hstep : ∀ (i : Nat) (o : Oper) (l : Nat → Bool) (a : Act) (w : World), ops[i]? = some o → Inv l a w → l i = false → (∀ e ∈ o.after, Region.binds md e = true → l e.on = true) → ∀ K : Act → World → Prop, (∀ a' w', Inv (Ls.upd l i true) a' w' → K a' w') → wpOp P ops Q i K a w)
    (hdone : ∀ (l : Nat → Bool) (a : Act) (w : World), Inv l a w → (∀ i, i < ops.size → l i = true) → Q .normal a w) :
    ∀ (fuel : Nat) (listed : Array Bool) (l : Nat → Bool) (a : Act) (w : World), listed.size = ops.size → (∀ j, j < ops.size → listed.getD j true = l j) → Ls.todo ops.size l ≤ fuel → Inv l a w → wpAny P md ops Q fuel listed a w := by
  intro fuel
  induction fuel with
  | zero =>
    intro listed l a w hs hl ht hi
    have hall := Ls.todo_none ops.size (Nat.le_zero.1 ht)
    refine ⟨List.eq_nil_iff_forall_not_mem.2 fun j hj => ?_, hdone l a w hi hall⟩
    obtain ⟨h1, o, ho, _⟩ := mem_ready.1 hj
    have hlt : j < ops.size := (Array.getElem?_eq_some_iff.1 ho).1
    rw [hl j hlt, hall j hlt] at h1
    cases h1
  | succ fuel ih =>
    intro listed l a w hs hl ht hi
    refine ⟨fun hr => hdone l a w hi ?_, fun i hri => ?_⟩
    · intro i
      induction i using Nat.strongRecOn with
      | ind i ihi =>
        intro hlt
        cases hli : l i with
        | true => rfl
        | false =>
          have ho : ops[i]? = some ops[i] := Array.getElem?_eq_getElem hlt
          have : i ∈ Region.ready md ops listed := mem_ready.2 ⟨by rw [hl i hlt]; exact hli, _, ho, fun e he hbd => by
            have hlo := hdag i _ ho e he hbd
            have h1 := ihi e.on hlo (by omega)
            rw [← hl e.on (by omega)] at h1
            rw [Array.getD_eq_getD_getElem?] at h1 ⊢
            rw [Array.getElem?_eq_getElem (by omega)] at h1 ⊢
            exact h1⟩
          rw [hr] at this
          cases this
    · obtain ⟨h1, o, ho, ha⟩ := mem_ready.1 hri
      have hlt : i < ops.size := (Array.getElem?_eq_some_iff.1 ho).1
      rw [hl i hlt] at h1
      refine hstep i o l a w ho hi h1 (fun e he hb => ?_) _ (fun a' w' hi' => ih _ (Ls.upd l i true) a' w' (by simpa using hs) (fun j hj => ?_) ?_ hi')
      · have h2 := ha e he hb
        have hlo := hdag i o ho e he hb
        rw [← hl e.on (by omega)]
        rw [Array.getD_eq_getD_getElem?] at h2 ⊢
        rw [Array.getElem?_eq_getElem (by omega)] at h2 ⊢
        exact h2
      · by_cases e : j = i
        · subst e
          rw [Ls.upd_same, Array.getD_eq_getD_getElem?, Array.getElem?_setIfInBounds_self_of_lt (by omega)]
          rfl
        · rw [Ls.upd_other _ _ e, Array.getD_eq_getD_getElem?, Array.getElem?_setIfInBounds_ne (fun h => e h.symm), ← Array.getD_eq_getD_getElem?]
          exact hl j hj
      · have := Ls.todo_upd h1 ops.size hlt
        omega
theorem wp_region_from {id : Nat} {a : Act} {w : World} (hm : P.follows .mixedOrders = true) (Inv : Act → (Nat → Bool) → Act → World → Prop) (hdag : ∀ (i : Nat) (o : Oper), ops[i]? = some o → ∀ e ∈ o.after, Region.binds .any e = true → e.on < i)
    (hstart : Inv a (fun _ => false) a w.drew)
    (hstep : ∀ (i : Nat) (o : Oper) (l : Nat → Bool) (a' : Act) (w : World), ops[i]? = some o → Inv a l a' w → l i = false → (∀ e ∈ o.after, Region.binds .any e = true → l e.on = true) → ∀ K : Act → World → Prop, (∀ a'' w', Inv a (Ls.upd l i true) a'' w' → K a'' w') → wpOp P ops Q i K a' w)
    (hdone : ∀ (l : Nat → Bool) (a' : Act) (w : World), Inv a l a' w → (∀ i, i < ops.size → l i = true) → Q .normal a' w) : (Code.region id ops true).wp P Q a w :=
  wp_region_any hm (wpAny_inv (Inv a) hdag hstep hdone ops.size _ (fun _ => false) a w.drew (by simp) (fun j hj => by
    rw [Array.getD_eq_getD_getElem?, Array.getElem?_replicate, if_pos hj]
    rfl) (Ls.todo_le _ _) hstart)
/-- The edges that bind lead back. -/
def backAny (ops : Array Oper) : Bool := (List.range ops.size).all fun i => ((ops[i]?).map fun o => o.after.all fun e => !Region.binds .any e || decide (e.on < i)).getD true
theorem dag_any {ops : Array Oper} (h : backAny ops = true) : ∀ (i : Nat) (o : Oper), ops[i]? = some o → ∀ e ∈ o.after, Region.binds .any e = true → e.on < i := by
  intro i o ho e he hb
  have hi : i < ops.size := (Array.getElem?_eq_some_iff.1 ho).1
  have := List.all_eq_true.1 h i (List.mem_range.2 hi)
  rw [ho] at this
  simp only [Option.map_some, Option.getD_some] at this
  have := Array.all_eq_true_iff_forall_mem.1 this e he
  rw [hb] at this
  simpa using this
theorem wpOp_of {i : Nat} {o : Oper} {a : Act} {w : World} {K : Act → World → Prop} (ho : ops[i]? = some o)
    (h : if Region.wanted o (yielded ops a.tmps) = true then o.wp P a w K Q else K (a.put o.dst undef) w) : wpOp P ops Q i K a w := by
  unfold wpOp
  rw [ho]
  simp only
  split
  · next hw => rw [if_pos hw] at h; exact .inl h
  · next hw => rw [if_neg hw] at h; exact h
end
end Go.Proofs.YtccjelpfmkbmiaaGreatDoor
end
section
namespace Go.Proofs.YtccjelpfmkbmiaaGreatDoor.Mu
open Go.Proofs.YtccjelpfmkbmiaaGreatDoor
open Go.RowKit
set_option maxRecDepth 100000

/-- What slots hold: those of what has been carried out. -/
structure Pl (ops : Array Oper) (a0 : Act) (val : Nat → Value) (l : Nat → Bool) (a : Act) : Prop where
  sz : a.tmps.size = a0.tmps.size
  df : a.defers = a0.defers
  out : ∀ j : Nat, (∀ (i : Nat) (o : Oper), ops[i]? = some o → ¬ o.dst = some j) → a.tmps[j]? = a0.tmps[j]?
  got : ∀ (i : Nat) (o : Oper) (s : Nat), ops[i]? = some o → l i = true → o.dst = some s → a.tmps[s]? = some (val i)
/-- Slots within the frame, no two alike; no operation is guarded. -/
def fitB (ops : Array Oper) (n : Nat) : Bool := (List.range ops.size).all fun i => ((ops[i]?).map fun o => o.guard.isNone && (match o.dst with
  | none => true
  | some s => decide (s < n) && (List.range i).all fun j => ((ops[j]?).map fun q => !(q.dst == some s)).getD true)).getD true
theorem fit_one {ops : Array Oper} {n i : Nat} {o : Oper} (h : fitB ops n = true) (ho : ops[i]? = some o) : o.guard = none ∧ ∀ s, o.dst = some s → s < n ∧ ∀ j q, j < i → ops[j]? = some q → ¬ q.dst = some s := by
  have hi : i < ops.size := (Array.getElem?_eq_some_iff.1 ho).1
  have h1 := List.all_eq_true.1 h i (List.mem_range.2 hi)
  rw [ho] at h1
  simp only [Option.map_some, Option.getD_some, Bool.and_eq_true] at h1
  refine ⟨by simpa using h1.1, fun s hs => ?_⟩
  have h2 := h1.2
  rw [hs] at h2
  simp only [Bool.and_eq_true, decide_eq_true_eq] at h2
  refine ⟨h2.1, fun j q hj hq hd => ?_⟩
  have h3 := List.all_eq_true.1 h2.2 j (List.mem_range.2 hj)
  rw [hq] at h3
  simp [hd] at h3
theorem Pl.put {ops : Array Oper} {a0 a : Act} {val val' : Nat → Value} {l : Nat → Bool} {i : Nat} {o : Oper} (hf : fitB ops a0.tmps.size = true) (h : Pl ops a0 val l a) (ho : ops[i]? = some o) (hv : ∀ j, l j = true → val' j = val j) (hl : l i = false) : Pl ops a0 val' (Ls.upd l i true) (a.put o.dst (val' i)) := by
  cases hd : o.dst with
  | none =>
    refine ⟨h.sz, h.df, h.out, fun j q s hq hj hs => ?_⟩
    by_cases e : j = i
    · subst e
      rw [ho] at hq
      cases hq
      rw [hd] at hs
      cases hs
    · rw [Ls.upd_other _ _ e] at hj
      rw [hv j hj]
      exact h.got j q s hq hj hs
  | some s =>
    have h1 := ((fit_one hf ho).2 s hd)
    refine ⟨by simp [Act.put, h.sz], h.df, fun j hj => ?_, fun j q s' hq hj hs => ?_⟩
    · have hne : ¬ s = j := fun e => hj i o ho (by rw [hd, e])
      rw [← h.out j hj]
      simp [Act.put, Array.getElem?_setIfInBounds_ne hne]
    · by_cases e : j = i
      · subst e
        rw [ho] at hq
        cases hq
        rw [hd] at hs
        cases hs
        have : s < a.tmps.size := by rw [h.sz]; exact h1.1
        simp [Act.put, this]
      · rw [Ls.upd_other _ _ e] at hj
        have hne : ¬ s = s' := fun e' => by
          subst e'
          rcases Nat.lt_or_gt_of_ne e with hlt | hlt
          · exact h1.2 j q hlt hq hs
          · exact ((fit_one hf hq).2 s hs).2 i o hlt ho hd
        rw [hv j hj, ← h.got j q s' hq hj hs]
        simp [Act.put, Array.getElem?_setIfInBounds_ne hne]
def noDst (ops : Array Oper) (j : Nat) : Bool := (List.range ops.size).all fun i => ((ops[i]?).map fun o => !(o.dst == some j)).getD true
theorem Pl.keep {ops : Array Oper} {a0 a : Act} {val : Nat → Value} {l : Nat → Bool} (h : Pl ops a0 val l a) {j : Nat} (hj : noDst ops j = true) : a.tmps[j]? = a0.tmps[j]? := h.out j fun i o ho hd => by
  have hi : i < ops.size := (Array.getElem?_eq_some_iff.1 ho).1
  have h1 := List.all_eq_true.1 hj i (List.mem_range.2 hi)
  rw [ho] at h1
  simp [hd] at h1
section
variable {P : Program} {ops : Array Oper} {Q : Exit → Act → World → Prop}
theorem region_plan {X : Type} {id : Nat} {a : Act} {w : World} (hm : P.follows .mixedOrders = true) (hb : backAny ops = true) (hf : fitB ops a.tmps.size = true) (val : X → Nat → Value) (I : X → (Nat → Bool) → World → Prop) (x0 : X) (hstart : I x0 (fun _ => false) w.drew)
    (hstep : ∀ (i : Nat) (o : Oper) (l : Nat → Bool) (a' : Act) (x : X) (W : World), ops[i]? = some o → Pl ops a (val x) l a' → I x l W → l i = false → (∀ e ∈ o.after, Region.binds .any e = true → l e.on = true) → ∀ K : Act → World → Prop,
      (∀ (x' : X) (W' : World), (∀ j, l j = true → val x' j = val x j) → I x' (Ls.upd l i true) W' → K (a'.put o.dst (val x' i)) W') → o.wp P a' W K Q)
    (hdone : ∀ (l : Nat → Bool) (a' : Act) (x : X) (W : World), Pl ops a (val x) l a' → I x l W → (∀ i, i < ops.size → l i = true) → Q .normal a' W) : (Code.region id ops true).wp P Q a w := by
  refine wp_region_from hm (fun a0 l a' W => a0 = a ∧ ∃ x, Pl ops a (val x) l a' ∧ I x l W) (dag_any hb) ⟨rfl, x0, ⟨rfl, rfl, fun _ _ => rfl, fun _ _ _ _ h => by cases h⟩, hstart⟩ ?_ ?_
  · rintro i o l a' W ho ⟨_, x, hP, hI⟩ hl haft K hK
    refine wpOp_of ho ?_
    have hg : Region.wanted o (yielded ops a'.tmps) = true := by
      unfold Region.wanted
      rw [(fit_one hf ho).1]
    rw [if_pos hg]
    exact hstep i o l a' x W ho hP hI hl haft K fun x' W' hv hI' => hK _ _ ⟨rfl, x', hP.put hf ho hv hl, hI'⟩
  · rintro l a' W ⟨_, x, hP, hI⟩ hall
    exact hdone l a' x W hP hI hall
/-- One operation. -/
theorem ev {a : Act} {s : Nat} {v : Value} (h : a.tmps[s]? = some v) : a.eval (.tmp s) = v := by
  show a.tmps.getD s undef = v
  rw [Array.getD_eq_getD_getElem?, h]
  rfl
variable {o : Oper} {a : Act} {W : World} {K : Act → World → Prop}
theorem p_load {x : Operand} {ty : TypeId} {p v : Value} (ho : o.op = .load ty x) (hx : a.eval x = p) (hr : (Instr.loadAt ty p).run P W = .ok v W) (hK : K (a.put o.dst v) W) : o.wp P a W K Q := by
  unfold Oper.wp execOp
  simp only [ho, hx, Sem.run_bind, hr, Result.andThen_ok]
  exact hK
theorem p_store {x y : Operand} {ty : TypeId} {p v : Value} {W' : World} (ho : o.op = .store ty x y) (hx : a.eval x = p) (hy : a.eval y = v) (hr : (Instr.storeAt ty p v).run P W = .ok () W') (hK : K (a.put o.dst undef) W') : o.wp P a W K Q := by
  unfold Oper.wp execOp
  simp only [ho, hx, hy, Sem.run_bind, hr, Result.andThen_ok]
  exact hK
end
end Go.Proofs.YtccjelpfmkbmiaaGreatDoor.Mu
end
section
namespace Go.Proofs.YtccjelpfmkbmiaaGreatDoor.Sh
open Go.Proofs.YtccjelpfmkbmiaaGreatDoor
open Go.RowKit
set_option maxRecDepth 100000

structure Rg (a0 a : Act) (lo hi : Nat) : Prop where
  sz : a.tmps.size = a0.tmps.size
  df : a.defers = a0.defers
  out : ∀ j, (j < lo ∨ hi ≤ j) → a.tmps[j]? = a0.tmps[j]?
theorem Rg.refl (a0 : Act) (lo hi : Nat) : Rg a0 a0 lo hi := ⟨rfl, rfl, fun _ _ => rfl⟩
theorem put_at {a : Act} {i : Nat} {v : Value} (h : i < a.tmps.size) : (a.put (some i) v).tmps[i]? = some v := by
  simp [Act.put, h]
theorem put_ne {a : Act} {i j : Nat} {v : Value} (h : ¬ i = j) : (a.put (some i) v).tmps[j]? = a.tmps[j]? := by
  simp [Act.put, Array.getElem?_setIfInBounds_ne h]
theorem Rg.put {a0 a : Act} {lo hi i : Nat} (h : Rg a0 a lo hi) (v : Value) (h1 : lo ≤ i) (h2 : i < hi) : Rg a0 (a.put (some i) v) lo hi :=
  ⟨by simp [Act.put, h.sz], h.df, fun j hj => (put_ne (by omega)).trans (h.out j hj)⟩
theorem region_gen {P : Program} {c : Code} {Q : Exit → Act → World → Prop} {a : Act} {w : World} (h : ∀ a0, a0 = a → c.wp P Q a0 w) : c.wp P Q a w := h a rfl
theorem act_ext {a b : Act} (h1 : a.defers = b.defers) (h2 : ∀ j : Nat, a.tmps[j]? = b.tmps[j]?) : a = b := by
  obtain ⟨x, y⟩ := a
  obtain ⟨z, u⟩ := b
  dsimp only at h1 h2
  rw [Array.ext_getElem? h2, h1]
end Go.Proofs.YtccjelpfmkbmiaaGreatDoor.Sh
end
section
namespace Go.Proofs.YtccjelpfmkbmiaaGreatDoor.Tr
open Go.Proofs.YtccjelpfmkbmiaaGreatDoor Go.Proofs.YtccjelpfmkbmiaaGreatDoor.Rt
open Go.RowKit
open Go.Proofs.YtccjelpfmkbmiaaGreatDoor.Mu (hv kv w_load w_store w_loadg ldHb ldKb stHb stKb st_int st_bool st_ints p_load p_store ev region_plan noHs0 noK0 OffH infH infK)
set_option maxRecDepth 100000

/-- A heap, a collector. -/
structure Q2 where
  s : Hs
  k : Sh.Ks
  d : Hd_
  xs : List Int
structure Hold (w : World) (n : Q2) : Prop where
  h : Hp w w.heap.size n.s n.d
  c : Sh.WRow w w.heap.size n.k n.xs
structure OffQ (b : Nat) (n : Q2) : Prop where
  h : OffH b n.s
  k : Mu.Off b n.k.wk
structure NewQ (B : Nat) (n : Q2) : Prop where
  h : News B n.s
  k : 0 < n.k.wk.n → ∀ x, n.k.wk.a = some x → B ≤ x.block
section
variable {w W W' : World} {B b i j : Nat} {n : Q2} {u : Ls.Sl} {s : Hs}
theorem Hold.next (h : Hold W n) (hb : Below W.heap.size W W') : Hold W' n := ⟨h.h.next hb, h.c.next hb⟩
theorem off_ge (h : 0 < u.n → ∀ x, u.a = some x → B ≤ x.block) (hb : b < B) : Mu.Off b u := fun hn x hx => by have := h hn x hx; omega
theorem offh_new (h : News B s) (hb : b < B) : OffH b s := ⟨off_ge h.w hb, off_ge h.p hb, fun j hj => off_ge (h.u j hj) hb, off_ge h.c hb⟩
theorem NewQ.off (h : NewQ B n) (hb : b < B) : OffQ b n := ⟨offh_new h.h hb, off_ge h.k hb⟩
theorem news_le (h : News B s) (hb : b ≤ B) : News b s := ⟨fun hn x hx => Nat.le_trans hb (h.w hn x hx), fun hn x hx => Nat.le_trans hb (h.p hn x hx), fun j hj hn x hx => Nat.le_trans hb (h.u j hj hn x hx), fun hn x hx => Nat.le_trans hb (h.c hn x hx)⟩
theorem NewQ.less (h : NewQ B n) (hb : b ≤ B) : NewQ b n := ⟨news_le h.h hb, fun hn x hx => Nat.le_trans hb (h.k hn x hx)⟩
theorem off_old (h : Hold w n) (hb : w.heap.size ≤ b) : OffQ b n := by
  have h1 := Mu.offh_old h.h
  have lt : ∀ {u : Ls.Sl}, (0 < u.n → ∀ x, u.a = some x → x.block < w.heap.size) → Mu.Off b u := fun h hn x hx => by have := h hn x hx; omega
  exact ⟨⟨lt (Mu.row_lies h.h.words), lt (Mu.prow_lies h.h.pages), fun j hj => lt (Mu.row_lies (h.h.free j hj).1), lt (Mu.brow_lies h.h.cards)⟩, lt (Mu.row_lies h.c)⟩
theorem hold_off (h : Hold w n) (ha : OffQ b n) (hs : ∀ k, ¬ k = b → W.heap[k]? = w.heap[k]?) (hz : W.heap.size = w.heap.size) : Hold W n :=
  ⟨by rw [hz]; exact Mu.hp_off h.h ha.h hs, by rw [hz]; exact Mu.row_keep h.c (fun hn x hx => hs x.block (ha.k hn x hx))⟩
theorem own_lie {w w' : World} {v : Ls.Sl} {xs : List Int} (h : Ls.Alling w w' v xs) : 0 < v.n → ∀ x, v.a = some x → w.heap.size ≤ x.block := fun _ x hx => (h.own.lt x.block (by rw [Ls.ownBlock_slice, hx]; rfl)).1
theorem own_cap {w w' : World} {v : Ls.Sl} {xs : List Int} (h : Ls.Alling w w' v xs) : v.n ≤ v.c := by
  obtain ⟨a1, c1, e1, _, h3, _⟩ := Ls.owns_row h.own
  simp only [Value.slice.injEq, true_and] at e1
  obtain ⟨_, rfl⟩ := e1
  omega
end
def p4 (a b c d : Nat) : Nat → Nat
  | 0 => a
  | 1 => b
  | 2 => c
  | _ => d
def c4 (a b c d : List Value) : Nat → List Value
  | 0 => a
  | 1 => b
  | 2 => c
  | _ => d
structure Wn (N : Nat) (w W : World) (p : Nat → Nat) (c : Nat → List Value) (ps : List Q2) : Prop where
  bel : Below w.heap.size w W
  lo : ∀ i, i < N → w.heap.size ≤ p i
  inj : ∀ i j, i < N → j < N → ¬ i = j → ¬ p i = p j
  box : ∀ i, i < N → Box W (p i) (c i)
  hold : ∀ n ∈ ps, Hold W n ∧ ∀ i, i < N → OffQ (p i) n
section
variable {N : Nat} {w W W' : World} {p : Nat → Nat} {c c' : Nat → List Value} {ps : List Q2} {i j : Nat} {n : Q2} {vs : List Value} {v : Value}
theorem Wn.next (h : Wn N w W p c ps) (hb : Below W.heap.size W W') : Wn N w W' p c ps := ⟨h.bel.trans (hb.mono h.bel.size), h.lo, h.inj, fun i hi => (h.box i hi).next hb, fun n hn => ⟨(h.hold n hn).1.next hb, (h.hold n hn).2⟩⟩
theorem Wn.at (h : Wn N w W p c ps) (n : Q2) (hm : n ∈ ps) : Hold W n := (h.hold n hm).1
theorem Wn.over (h : Wn N w W p c ps) (hz : Cl.Sz w) : Cl.Sz W := hz.over h.bel hz.pos
theorem Wn.held (h : Wn N w W p c ps) (hn : Hold W n) (ho : ∀ i, i < N → OffQ (p i) n) : Wn N w W p c (n :: ps) := ⟨h.bel, h.lo, h.inj, h.box, fun x hx => by
  rcases List.mem_cons.1 hx with rfl | hx
  · exact ⟨hn, ho⟩
  · exact h.hold x hx⟩
theorem Wn.lt (h : Wn N w W p c ps) (hi : i < N) : p i < W.heap.size := (h.box i hi).lt
theorem Wn.only (h : Wn N w W p c (n :: ps)) : Wn N w W p c [n] := ⟨h.bel, h.lo, h.inj, h.box, fun x hx => by
  rcases List.mem_singleton.1 hx with rfl
  exact h.hold _ (List.mem_cons.2 (.inl rfl))⟩
theorem Wn.bare (h : Wn N w W p c ps) : Wn N w W p c [] := ⟨h.bel, h.lo, h.inj, h.box, fun x hx => (by cases hx)⟩
/-- One of the boxes is turned. -/
theorem Wn.turn (h : Wn N w W p c ps) (hi : i < N) (hB : Box W' (p i) vs) (hbel : Below w.heap.size w W') (hs : ∀ k, ¬ k = p i → W'.heap[k]? = W.heap[k]?) (hz : W'.heap.size = W.heap.size) (hc : ∀ k, k < N → c' k = if k = i then vs else c k) : Wn N w W' p c' ps := by
  refine ⟨hbel, h.lo, h.inj, fun k hk => ?_, fun n hn => ⟨hold_off (h.hold n hn).1 ((h.hold n hn).2 i hi) hs hz, (h.hold n hn).2⟩⟩
  rw [hc k hk]
  split
  · next e => subst e; exact hB
  · next e => exact (h.box k hk).same (hs _ (h.inj k i hk hi e)) (Nat.le_of_eq hz.symm)
theorem Wn.puts (h : Wn N w W p c ps) (i : Nat) (hi : i < N) (vs : List Value) (hl : (c i).length = vs.length) (hc : ∀ k, k < N → c' k = if k = i then vs else c k) : Wn N w (puts (p i) 0 vs W) p c' ps :=
  h.turn hi (Mu.box_all (h.box i hi) hl) (below_puts _ (h.lo i hi) _ _ _ h.bel) (fun _ hk => puts_other _ _ _ _ hk) (puts_size _ _ _ _) hc
theorem Wn.cell (h : Wn N w W p c ps) (i : Nat) (hi : i < N) (j : Nat) (v : Value) (hv : (c i).set j v = vs) (hc : ∀ k, k < N → c' k = if k = i then vs else c k) : Wn N w (W.setCell ⟨p i, j, none⟩ v) p c' ps := by
  have hb := (h.box i hi).set j v
  rw [hv] at hb
  exact h.turn hi hb (h.bel.setCell (p := ⟨p i, j, none⟩) (h.lo i hi) _) (fun _ hk => Below.heap_setCell _ _ _ _ hk) (by simp [World.setCell]) hc
theorem all4 {P : Nat → Prop} (h : P 0 ∧ P 1 ∧ P 2 ∧ P 3) : ∀ k, k < 4 → P k := fun k hk => by
  obtain ⟨h0, h1, h2, h3⟩ := h
  match k, hk with
  | 0, _ => exact h0
  | 1, _ => exact h1
  | 2, _ => exact h2
  | 3, _ => exact h3
theorem all3 {P : Nat → Prop} (h : P 0 ∧ P 1 ∧ P 2) : ∀ k, k < 3 → P k := fun k hk => by
  obtain ⟨h0, h1, h2⟩ := h
  match k, hk with
  | 0, _ => exact h0
  | 1, _ => exact h1
  | 2, _ => exact h2
theorem all2 {P : Nat → Prop} (h : P 0 ∧ P 1) : ∀ k, k < 2 → P k := fun k hk => by
  obtain ⟨h0, h1⟩ := h
  match k, hk with
  | 0, _ => exact h0
  | 1, _ => exact h1
theorem p4_at {b : Nat} : ∀ i, i < 4 → p4 b (b + 1) (b + 2) (b + 3) i = b + i := all4 ⟨rfl, rfl, rfl, rfl⟩
theorem inj4 {b N : Nat} (hN : N ≤ 4) : ∀ i j, i < N → j < N → ¬ i = j → ¬ p4 b (b + 1) (b + 2) (b + 3) i = p4 b (b + 1) (b + 2) (b + 3) j := by
  intro i j hi hj hne
  rw [p4_at i (by omega), p4_at j (by omega)]
  omega
end
/-- Boxes, laid one behind the other. -/
structure Lay (w W : World) (vs : List (List Value)) : Prop where
  bel : Below w.heap.size w W
  sz : W.heap.size = w.heap.size + vs.length
  box : ∀ (i : Nat) us, vs[i]? = some us → Box W (w.heap.size + i) us
theorem lay_none (w : World) : Lay w w [] := ⟨Below.refl _ _, rfl, fun i us h => by simp at h⟩
theorem Lay.add {w W : World} {vs : List (List Value)} (h : Lay w W vs) (us : List Value) (ty : TypeId) : Lay w (W.alloc (.cells us.toArray ty)) (vs ++ [us]) := by
  have hb := (Below.refl W.heap.size W).alloc (Nat.le_refl _) (.cells us.toArray ty)
  refine ⟨h.bel.trans (hb.mono h.bel.size), by rw [World.size_alloc, h.sz]; simp; omega, fun i vs' hi => ?_⟩
  by_cases e : i < vs.length
  · rw [List.getElem?_append_left e] at hi
    exact (h.box i vs' hi).next hb
  · have hi' : i = vs.length := by
      have := (List.getElem?_eq_some_iff.1 hi).1
      simp at this
      omega
    subst hi'
    simp at hi
    subst hi
    have := Box.new W us ty
    rw [h.sz] at this
    exact this
theorem wn_of {w W : World} {vs : List (List Value)} {N : Nat} {c : Nat → List Value} (h : Lay w W vs) (hN : N ≤ 4) (hc : ∀ i, i < N → vs[i]? = some (c i)) : Wn N w W (p4 w.heap.size (w.heap.size + 1) (w.heap.size + 2) (w.heap.size + 3)) c [] :=
  ⟨h.bel, fun i hi => by rw [p4_at i (by omega)]; omega, inj4 hN, fun i hi => by rw [p4_at i (by omega)]; exact h.box i _ (hc i hi), fun x hx => (by cases hx)⟩
theorem Wn.old {N : Nat} {w W : World} {p : Nat → Nat} {c : Nat → List Value} {ps : List Q2} {n : Q2} (h : Wn N w W p c ps) (hn : Hold w n) : Wn N w W p c (n :: ps) := h.held (hn.next h.bel) fun i hi => off_old hn (h.lo i hi)
section
variable {N : Nat} {w W W0 : World} {p : Nat → Nat} {c c' : Nat → List Value} {ps : List Q2} {ops : Array Oper} {rest : List Oper} {o : Oper} {a : Act} {Q : Exit → Act → World → Prop}
/-- A box is filled anew; a cell of one is. -/
theorem w_putH {X Y : Operand} (h : Wn N w W0 p c ps) (i : Nat) (hi : i < N) (x : Hs) (hl : (c i).length = 6) (hc : ∀ k, k < N → c' k = if k = i then hv x else c k) (hw : W = W0) (hgd : o.guard = none) (ho : o.op = .store 28 X Y) (hx : a.eval X = .pointer (some ⟨p i, 0, none⟩)) (hy : a.eval Y = (.agg #[.slice x.w.a x.w.n x.w.c, .slice x.p.a x.p.n x.p.c, .slice (x.u 0).a (x.u 0).n (x.u 0).c, .slice (x.u 1).a (x.u 1).n (x.u 1).c, .slice (x.u 2).a (x.u 2).n (x.u 2).c, .slice x.c.a x.c.n x.c.c])) (hK : ∀ W', Wn N w W' p c' ps → wpList Tryz.prog ops Q rest (a.put o.dst undef) W') : wpList Tryz.prog ops Q (o :: rest) a W :=
  w_store (stHb (h.box i hi) hl x) hw hgd ho hx hy (hK _ (h.puts i hi (hv x) hl hc))
theorem w_putK {X Y : Operand} (h : Wn N w W0 p c ps) (i : Nat) (hi : i < N) (x : Sh.Ks) (hl : (c i).length = 10) (hc : ∀ k, k < N → c' k = if k = i then kv x else c k) (hw : W = W0) (hgd : o.guard = none) (ho : o.op = .store 30 X Y) (hx : a.eval X = .pointer (some ⟨p i, 0, none⟩)) (hy : a.eval Y = (.agg #[.int .i64 x.ph, .int .i64 x.ep, .bool x.mj, .slice x.wk.a x.wk.n x.wk.c, .bool x.ov, .int .i64 x.pa, .int .i64 x.pf, .int .i64 x.ps, .int .i64 x.pc, .bool x.me])) (hK : ∀ W', Wn N w W' p c' ps → wpList Tryz.prog ops Q rest (a.put o.dst undef) W') : wpList Tryz.prog ops Q (o :: rest) a W :=
  w_store (stKb (h.box i hi) hl x) hw hgd ho hx hy (hK _ (h.puts i hi (kv x) hl hc))
theorem w_int {X Y : Operand} (h : Wn N w W0 p c ps) (i : Nat) (hi : i < N) (j : Nat) (z : Int) {vs : List Value} (hj : j < (c i).length) (hv : (c i).set j (.int .i64 z) = vs) (hc : ∀ k, k < N → c' k = if k = i then vs else c k) (hw : W = W0) (hgd : o.guard = none) (ho : o.op = .store 3 X Y) (hx : a.eval X = .pointer (some ⟨p i, j, none⟩)) (hy : a.eval Y = .int .i64 z) (hK : ∀ W', Wn N w W' p c' ps → wpList Tryz.prog ops Q rest (a.put o.dst undef) W') : wpList Tryz.prog ops Q (o :: rest) a W :=
  w_store (st_int (h.box i hi) hj z) hw hgd ho hx hy (hK _ (h.cell i hi j (.int .i64 z) hv hc))
theorem w_bool {X Y : Operand} (h : Wn N w W0 p c ps) (i : Nat) (hi : i < N) (j : Nat) (z : Bool) {vs : List Value} (hj : j < (c i).length) (hv : (c i).set j (.bool z) = vs) (hc : ∀ k, k < N → c' k = if k = i then vs else c k) (hw : W = W0) (hgd : o.guard = none) (ho : o.op = .store 4 X Y) (hx : a.eval X = .pointer (some ⟨p i, j, none⟩)) (hy : a.eval Y = .bool z) (hK : ∀ W', Wn N w W' p c' ps → wpList Tryz.prog ops Q rest (a.put o.dst undef) W') : wpList Tryz.prog ops Q (o :: rest) a W :=
  w_store (st_bool (h.box i hi) hj z) hw hgd ho hx hy (hK _ (h.cell i hi j (.bool z) hv hc))
theorem w_ints {X Y : Operand} (h : Wn N w W0 p c ps) (i : Nat) (hi : i < N) (j : Nat) (z : Ls.Sl) {vs : List Value} (hj : j < (c i).length) (hv : (c i).set j (.slice z.a z.n z.c) = vs) (hc : ∀ k, k < N → c' k = if k = i then vs else c k) (hw : W = W0) (hgd : o.guard = none) (ho : o.op = .store 22 X Y) (hx : a.eval X = .pointer (some ⟨p i, j, none⟩)) (hy : a.eval Y = .slice z.a z.n z.c) (hK : ∀ W', Wn N w W' p c' ps → wpList Tryz.prog ops Q rest (a.put o.dst undef) W') : wpList Tryz.prog ops Q (o :: rest) a W :=
  w_store (st_ints (h.box i hi) hj z) hw hgd ho hx hy (hK _ (h.cell i hi j (.slice z.a z.n z.c) hv hc))
end
section
variable {W : World} {u : Hs} {q : Sh.Ks} {bh bk : Nat} {tm : Array Value}
/-- Results that lie in boxes. -/
theorem resK {fn : Func} {j : Nat} (hf : fn.results = #[.cell j 30]) (h6 : tm[j]? = some (.pointer (some ⟨bk, 0, none⟩))) (xk : Box W bk (kv q)) : (results fn tm).run Tryz.prog W = .ok (.agg #[.int .i64 q.ph, .int .i64 q.ep, .bool q.mj, .slice q.wk.a q.wk.n q.wk.c, .bool q.ov, .int .i64 q.pa, .int .i64 q.pf, .int .i64 q.ps, .int .i64 q.pc, .bool q.me]) W := by
  have l2 := run_loadVar_mid (P := Tryz.prog) W bk 0 30 (kv q) _ (fun j v hj => by rw [Nat.zero_add]; exact xk.cel j v hj) Tryz.underlying30 rfl infK
  simp [results, hf, h6, asAddr, l2]
  rfl
theorem resHK {fn : Func} (hf : fn.results = #[.cell 4 28, .cell 5 30]) (h6 : tm[4]? = some (.pointer (some ⟨bh, 0, none⟩))) (h7 : tm[5]? = some (.pointer (some ⟨bk, 0, none⟩))) (xh : Box W bh (hv u)) (xk : Box W bk (kv q)) : (results fn tm).run Tryz.prog W = .ok (.tuple #[(.agg #[.slice u.w.a u.w.n u.w.c, .slice u.p.a u.p.n u.p.c, .slice (u.u 0).a (u.u 0).n (u.u 0).c, .slice (u.u 1).a (u.u 1).n (u.u 1).c, .slice (u.u 2).a (u.u 2).n (u.u 2).c, .slice u.c.a u.c.n u.c.c]), (.agg #[.int .i64 q.ph, .int .i64 q.ep, .bool q.mj, .slice q.wk.a q.wk.n q.wk.c, .bool q.ov, .int .i64 q.pa, .int .i64 q.pf, .int .i64 q.ps, .int .i64 q.pc, .bool q.me])]) W := by
  have l1 := run_loadVar_mid (P := Tryz.prog) W bh 0 28 (hv u) _ (fun j v hj => by rw [Nat.zero_add]; exact xh.cel j v hj) Tryz.underlying28 rfl infH
  have l2 := run_loadVar_mid (P := Tryz.prog) W bk 0 30 (kv q) _ (fun j v hj => by rw [Nat.zero_add]; exact xk.cel j v hj) Tryz.underlying30 rfl infK
  simp [results, hf, h6, h7, asAddr, l1, l2]
  exact ⟨rfl, rfl⟩
end
end Go.Proofs.YtccjelpfmkbmiaaGreatDoor.Tr
end
section
namespace Go.Proofs.YtccjelpfmkbmiaaGreatDoor.Ls
open Go.Proofs.YtccjelpfmkbmiaaGreatDoor
set_option maxRecDepth 100000
open Go.RowKit

/-- Whether two are the same. -/
def sameUp (f g : Nat → List Int) (k : Nat) : Prop := ∀ j, j < k → f j = g j
instance (f g : Nat → List Int) (k : Nat) : Decidable (sameUp f g k) := inferInstanceAs (Decidable (∀ j, j < k → f j = g j))

end Go.Proofs.YtccjelpfmkbmiaaGreatDoor.Ls
end
section
namespace Go.Proofs.YtccjelpfmkbmiaaGreatDoor.Sh
open Go.Proofs.YtccjelpfmkbmiaaGreatDoor
open Go.RowKit
set_option maxRecDepth 100000

theorem row_of {base : Nat} {W : World} {v : Ls.Sl} {xs : List Int} (ho : W.ownsRow base 3 1 (.slice v.a v.n v.c) v.n (xs.map (Value.int .i64))) : Row W W.heap.size v.a v.n xs := by
  obtain ⟨a, c, e, hr, _, _⟩ := Ls.owns_row ho
  simp only [Value.slice.injEq, true_and] at e
  obtain ⟨rfl, rfl⟩ := e
  exact hr
theorem own_step {W W' : World} {base n : Nat} {v : Value} {xs : List Value} (h : W.ownsRow base 3 1 v n xs) (hb : Below W.heap.size W W') : W'.ownsRow base 3 1 v n xs :=
  Ls.World.ownsRow.same h fun g hg _ => hb.block g (h.lt g hg).2
theorem all_step {w W W' : World} {t : Ls.Sl} {xs : List Int} (h : Ls.Alling w W t xs) (hb : Below W.heap.size W W') : Ls.Alling w W' t xs := ⟨own_step h.own hb, h.bel.trans (hb.mono h.bel.size)⟩
theorem take_yes {p : Int → Bool} {xs : List Int} {q : Nat} (h : q < xs.length) (hp : p (xs.getD q 0) = true) : (xs.take (q + 1)).filter p = (xs.take q).filter p ++ [xs.getD q 0] := by
  have g : xs.getD q 0 = xs[q] := by simp [List.getD, h]
  rw [g] at hp ⊢
  rw [List.take_succ_eq_append_getElem h, List.filter_append]
  simp [hp]
theorem take_no {p : Int → Bool} {xs : List Int} {q : Nat} (h : q < xs.length) (hp : p (xs.getD q 0) = false) : (xs.take (q + 1)).filter p = (xs.take q).filter p := by
  have g : xs.getD q 0 = xs[q] := by simp [List.getD, h]
  rw [g] at hp
  rw [List.take_succ_eq_append_getElem h, List.filter_append]
  simp [hp]
section
variable (s : Hs) (d : Hd_) (k : Ks) (xs : List Int) (w : World)
set_option maxHeartbeats 2000000 in
theorem grey_core (us : List Int) (g : Int → Bool) (hul : us.length ≤ 512) (hp : Hp w w.heap.size s d) (hk : WRow w w.heap.size k xs)
    (hU : ∀ W, Lk w W [(w.heap.size, s, d)] [(w.heap.size + 1, k, xs)] → Calls Tryz.prog 37 #[(.agg #[.slice s.w.a s.w.n s.w.c, .slice s.p.a s.p.n s.p.c, .slice (s.u 0).a (s.u 0).n (s.u 0).c, .slice (s.u 1).a (s.u 1).n (s.u 1).c, .slice (s.u 2).a (s.u 2).n (s.u 2).c, .slice s.c.a s.c.n s.c.c])] W (Ls.AllOut W us))
    (hF : ∀ y, ∃ (u o e : Bool) (n b m : Int), ∀ W, Lk w W [(w.heap.size, s, d)] [(w.heap.size + 1, k, xs)] → Calls Tryz.prog 76 #[(.agg #[.slice s.w.a s.w.n s.w.c, .slice s.p.a s.p.n s.p.c, .slice (s.u 0).a (s.u 0).n (s.u 0).c, .slice (s.u 1).a (s.u 1).n (s.u 1).c, .slice (s.u 2).a (s.u 2).n (s.u 2).c, .slice s.c.a s.c.n s.c.c]), (.agg #[.int .i64 k.ph, .int .i64 k.ep, .bool k.mj, .slice k.wk.a k.wk.n k.wk.c, .bool k.ov, .int .i64 k.pa, .int .i64 k.pf, .int .i64 k.ps, .int .i64 k.pc, .bool k.me]), .int .i64 y, .int .i64 2] W (FindOut W (.agg #[.bool u, .bool o, .bool e, .int .i64 n, .int .i64 b, .int .i64 m]) (g y))) :
    Calls Tryz.prog 28 #[(.agg #[.slice s.w.a s.w.n s.w.c, .slice s.p.a s.p.n s.p.c, .slice (s.u 0).a (s.u 0).n (s.u 0).c, .slice (s.u 1).a (s.u 1).n (s.u 1).c, .slice (s.u 2).a (s.u 2).n (s.u 2).c, .slice s.c.a s.c.n s.c.c]), (.agg #[.int .i64 k.ph, .int .i64 k.ep, .bool k.mj, .slice k.wk.a k.wk.n k.wk.c, .bool k.ov, .int .i64 k.pa, .int .i64 k.pf, .int .i64 k.ps, .int .i64 k.pc, .bool k.me])] w (Ls.AllOut w (us.filter g)) := by
  have HP := Lib.hid hp
  have HK := Lib.hid hk
  have HU := Lib.hid hU
  have HF := Lib.hid hF
  obtain ⟨n, hn⟩ : ∃ n, us.length = n := ⟨_, rfl⟩
  rw [hn] at hul
  have HN := Lib.hid hn
  clear hp hk hU hF hn
  go_enter Tryz.func28, Tryz.ntmps28
  go_upto_region 2 with fail
  obtain ⟨W0, hW0⟩ : ∃ W0, W0 = (w.alloc (.cells #[.slice s.w.a s.w.n s.w.c, .slice s.p.a s.p.n s.p.c, .slice (s.u 0).a (s.u 0).n (s.u 0).c, .slice (s.u 1).a (s.u 1).n (s.u 1).c, .slice (s.u 2).a (s.u 2).n (s.u 2).c, .slice s.c.a s.c.n s.c.c] 28)).alloc (.cells #[.int .i64 k.ph, .int .i64 k.ep, .bool k.mj, .slice k.wk.a k.wk.n k.wk.c, .bool k.ov, .int .i64 k.pa, .int .i64 k.pf, .int .i64 k.ps, .int .i64 k.pc, .bool k.me] 30) := ⟨_, rfl⟩
  have K0 := Lib.hid (lk_start HP.out HK.out hW0)
  rw [← hW0]
  clear hW0
  have q0 := (K0.out.at (w.heap.size) s d (by simp)).c0
  have q1 := (K0.out.at (w.heap.size) s d (by simp)).c1
  have q2 := (K0.out.at (w.heap.size) s d (by simp)).c2
  have q3 := (K0.out.at (w.heap.size) s d (by simp)).c3
  have q4 := (K0.out.at (w.heap.size) s d (by simp)).c4
  have q5 := (K0.out.at (w.heap.size) s d (by simp)).c5
  have ql := (K0.out.at (w.heap.size) s d (by simp)).lt
  go_wp2_with fail
  refine (HU.out W0 K0.out).mono ?_
  rintro e9 w2 ⟨⟨va, vn, vc⟩, rfl, ho, hb2⟩
  have K2 := Lib.hid (K0.out.next hb2)
  obtain rfl : vn = n := by have h1 := ho.1; have h2 := HN.out; simp only [List.length_map] at h1; omega
  have R2 := Lib.hid (row_of ho)
  clear hb2 ho K0 HU
  clear q0 q1 q2 q3 q4 q5 ql
  go_wp2
  go_loopw [5, 13] (fun o i wr => ∃ (t : Ls.Sl) (q : Nat), q ≤ vn ∧ o = .slice t.a t.n t.c ∧ i = .int .i64 q ∧ Hid (Ls.Alling w2 wr t ((us.take q).filter g))) (fun _ i _ => vn - (intOf i).toNat)
  case atStart => exact ⟨⟨none, 0, 0⟩, 0, by omega, rfl, rfl, Lib.hid ⟨World.ownsRow_nil _ _ _ _, Below.refl _ _⟩⟩
  case round =>
    obtain ⟨t, q, hq, rfl, rfl, HA⟩ := hrel
    have LA := Lib.hid (K2.out.next HA.out.bel)
    by_cases hlt : q < vn
    · have HQ : Hid (q < us.length) := Lib.hid (by have := HN.out; omega)
      have hR := Row.below R2.out HA.out.bel
      obtain ⟨b, off, rfl, hbl', hcell⟩ := hR.2 (by omega)
      have hq1 := hcell q hlt
      have hbl : b < wr.heap.size := by have := HA.out.bel.size; omega
      obtain ⟨y, hy⟩ : ∃ y, y = us.getD q 0 := ⟨_, rfl⟩
      rw [← hy] at hq1
      have HY := Lib.hid hy
      have htn : t.n + 1 ≤ 4000000 := by
        have h1 := HA.out.len
        have h2 : ((us.take q).filter g).length ≤ (us.take q).length := List.length_filter_le _ _
        rw [List.length_take] at h2
        omega
      obtain ⟨u, o, e, n, m0, m, hf⟩ := HF.out y
      obtain ⟨gy, hg⟩ : ∃ gy, gy = g y := ⟨_, rfl⟩
      rw [← hg] at hf
      clear hcell hy hbl' hR
      have x0 := (LA.out.at (w.heap.size) s d (by simp)).c0
      have x1 := (LA.out.at (w.heap.size) s d (by simp)).c1
      have x2 := (LA.out.at (w.heap.size) s d (by simp)).c2
      have x3 := (LA.out.at (w.heap.size) s d (by simp)).c3
      have x4 := (LA.out.at (w.heap.size) s d (by simp)).c4
      have x5 := (LA.out.at (w.heap.size) s d (by simp)).c5
      have xl := (LA.out.at (w.heap.size) s d (by simp)).lt
      have p0 := (LA.out.cat (w.heap.size + 1) k xs (by simp)).c0
      have p1 := (LA.out.cat (w.heap.size + 1) k xs (by simp)).c1
      have p2 := (LA.out.cat (w.heap.size + 1) k xs (by simp)).c2
      have p3 := (LA.out.cat (w.heap.size + 1) k xs (by simp)).c3
      have p4 := (LA.out.cat (w.heap.size + 1) k xs (by simp)).c4
      have p5 := (LA.out.cat (w.heap.size + 1) k xs (by simp)).c5
      have p6 := (LA.out.cat (w.heap.size + 1) k xs (by simp)).c6
      have p7 := (LA.out.cat (w.heap.size + 1) k xs (by simp)).c7
      have p8 := (LA.out.cat (w.heap.size + 1) k xs (by simp)).c8
      have p9 := (LA.out.cat (w.heap.size + 1) k xs (by simp)).c9
      have pl := (LA.out.cat (w.heap.size + 1) k xs (by simp)).lt
      cases gy
      · have HT := Lib.hid (take_no (p := g) HQ.out (by rw [← HY.out]; exact hg.symm))
        have FX := Lib.hid hf
        clear hf hg
        go_wp2_with fail
        refine (FX.out wr LA.out).mono ?_
        rintro e9 w5 ⟨rfl, hb5⟩
        have HB := Lib.hid (all_step HA.out (hb5.alloc hb5.size (.cells #[.bool u, .bool o, .bool e, .int .i64 n, .int .i64 m0, .int .i64 m] 53)))
        rw [← HT.out] at HB
        clear hb5 FX
        clear x0 x1 x2 x3 x4 x5 xl
        clear p0 p1 p2 p3 p4 p5 p6 p7 p8 p9 pl
        go_wp2
        go_roundw
        case rel => exact ⟨t, q + 1, by omega, rfl, by go_num, HB⟩
        case measure => simp [intOf]; omega
      · have HT := Lib.hid (take_yes (p := g) HQ.out (by rw [← HY.out]; exact hg.symm))
        rw [← HY.out] at HT
        have FX := Lib.hid hf
        clear hf hg
        go_wp2_with fail
        refine (FX.out wr LA.out).mono ?_
        rintro e9 w5 ⟨rfl, hb5⟩
        have HB := Lib.hid (all_step HA.out (hb5.alloc hb5.size (.cells #[.bool u, .bool o, .bool e, .int .i64 n, .int .i64 m0, .int .i64 m] 53)))
        clear hb5 FX
        clear x0 x1 x2 x3 x4 x5 xl
        clear p0 p1 p2 p3 p4 p5 p6 p7 p8 p9 pl
        go_upto_region 7 with fail
        generalize w5.alloc (.cells #[.bool u, .bool o, .bool e, .int .i64 n, .int .i64 m0, .int .i64 m] 53) = w4 at HB ⊢
        go_wp2_with (at_builtin; refine Ls.list_cat rfl _ _ rfl rfl rfl (HB.out.alloc _).own (Ls.row_lit1 _ _) (HB.out.alloc _).bel.size htn ?_)
        intro p' cp' w6 hcat
        have hA6 := (HB.out.alloc _).cat hcat
        rw [← HT.out] at hA6
        have H6 := Lib.hid hA6
        clear hcat hA6
        go_wp2
        go_roundw
        case rel => exact ⟨⟨p', t.n + 1, cp'⟩, q + 1, by omega, rfl, by go_num, H6⟩
        case measure => simp [intOf]; omega
    · obtain rfl : q = vn := by omega
      have HE := Lib.hid (And.intro (own_less' HA.out.own K2.out.bel.size) LA.out.bel)
      have e : us.take q = us := List.take_of_length_le (by have := HN.out; omega)
      rw [e] at HE
      clear e
      go_wp2
      go_ret
      exact ⟨t, rfl, HE.out.1, HE.out.2⟩
theorem grey_any (hp : Hp w w.heap.size s d) (hk : WRow w w.heap.size k xs) (hz : Cl.Sz w) (hf : Fine s d) : Calls Tryz.prog 28 #[(.agg #[.slice s.w.a s.w.n s.w.c, .slice s.p.a s.p.n s.p.c, .slice (s.u 0).a (s.u 0).n (s.u 0).c, .slice (s.u 1).a (s.u 1).n (s.u 1).c, .slice (s.u 2).a (s.u 2).n (s.u 2).c, .slice s.c.a s.c.n s.c.c]), (.agg #[.int .i64 k.ph, .int .i64 k.ep, .bool k.mj, .slice k.wk.a k.wk.n k.wk.c, .bool k.ov, .int .i64 k.pa, .int .i64 k.pf, .int .i64 k.ps, .int .i64 k.pc, .bool k.me])] w (Ls.AllOut w (greyL s d k.mj k.ep)) := by
  refine grey_core s d k xs w (usedL s d) (fun y => isC s d k.mj k.ep y 2) (Nat.le_trans (used_len s d) (allS_len d.f s.p.n)) hp hk (fun W h => pused_any s d W (h.hp w.heap.size s d (by simp)) (hz.over h.bel hz.pos) hf) fun y => ?_
  obtain ⟨z0, z1, z2, z3, z4, z5, hv⟩ := find_form s d k.mj k.ep y 2
  refine ⟨z0, z1, z2, z3, z4, z5, fun W h => ?_⟩
  have := find_any s d k xs y 2 W (h.hp w.heap.size s d (by simp)) (h.wr (w.heap.size + 1) k xs (by simp)) (hz.over h.bel hz.pos) hf
  rwa [hv] at this
end
/-- A heap, and a work list, that are not too great. -/
def fewK (s : Hs) (k : Ks) : Bool := fewH s && decide (k.wk.n ≤ 100)
end Go.Proofs.YtccjelpfmkbmiaaGreatDoor.Sh
end
section
namespace Go.Proofs.YtccjelpfmkbmiaaGreatDoor.Tr
open Go.Proofs.YtccjelpfmkbmiaaGreatDoor Go.Proofs.YtccjelpfmkbmiaaGreatDoor.Rt
open Go.RowKit
open Go.Proofs.YtccjelpfmkbmiaaGreatDoor.Mu (hv kv w_load w_store w_loadg ldHb ldKb stHb stKb st_int ld_int p_load p_store ev region_plan noHs0 noK0)
set_option maxRecDepth 100000

def whN (k : Sh.Ks) : Int := if ¬ k.pa = 0 then 0 else if 0 < k.wk.n then 1 else if ¬ k.ps = 0 then 2 else if k.ov = true then 3 else 4
theorem wh_n (k : Sh.Ks) (xs : List Int) (h : k.wk.n = xs.length) : whN k = wh k xs := by
  unfold whN wh
  rw [h]
set_option maxHeartbeats 1000000 in
theorem which_any (k : Sh.Ks) (w : World) (hw : k.wk.n ≤ 9223372036854775807)  : Calls Tryz.prog 71 #[(.agg #[.int .i64 k.ph, .int .i64 k.ep, .bool k.mj, .slice k.wk.a k.wk.n k.wk.c, .bool k.ov, .int .i64 k.pa, .int .i64 k.pf, .int .i64 k.ps, .int .i64 k.pc, .bool k.me])] w fun e w' => e = .returned (.int .i64 (whN k)) ∧ Below w.heap.size w w' := by
  go_enter Tryz.func71, Tryz.ntmps71
  go_upto_region 1 with fail
  obtain ⟨W1, hW1⟩ : ∃ W1, W1 = w.alloc (.cells #[.int .i64 k.ph, .int .i64 k.ep, .bool k.mj, .slice k.wk.a k.wk.n k.wk.c, .bool k.ov, .int .i64 k.pa, .int .i64 k.pf, .int .i64 k.ps, .int .i64 k.pc, .bool k.me] 30) := ⟨_, rfl⟩
  have hb := (Below.refl w.heap.size w).alloc (Nat.le_refl _) (.cells #[.int .i64 k.ph, .int .i64 k.ep, .bool k.mj, .slice k.wk.a k.wk.n k.wk.c, .bool k.ov, .int .i64 k.pa, .int .i64 k.pf, .int .i64 k.ps, .int .i64 k.pc, .bool k.me] 30)
  have kb := Sh.CBox.new w k 30
  rw [← hW1] at kb hb
  rw [← hW1]
  clear hW1
  have p0 := (kb).c0
  have p1 := (kb).c1
  have p2 := (kb).c2
  have p3 := (kb).c3
  have p4 := (kb).c4
  have p5 := (kb).c5
  have p6 := (kb).c6
  have p7 := (kb).c7
  have p8 := (kb).c8
  have p9 := (kb).c9
  have pl := (kb).lt
  go_wp2
  go_step3
  go_wp2
  go_step3
  go_wp2
  go_loopw [3] (fun i wr => ∃ j : Nat, j ≤ 4 ∧ i = .int .i64 j ∧ wr = W1 ∧ (0 < j → k.pa = 0) ∧ (1 < j → k.wk.n = 0) ∧ (2 < j → k.ps = 0) ∧ (3 < j → k.ov = false)) (fun i _ => 4 - (intOf i).toNat)
  case atStart => exact ⟨0, by omega, rfl, rfl, by omega, by omega, by omega, by omega⟩
  case round =>
    obtain ⟨j, hj, rfl, rfl, f0, f1, f2, f3⟩ := hrel
    have HF := Lib.hid (And.intro f0 (And.intro f1 (And.intro f2 f3)))
    clear f0 f1 f2 f3
    rcases (show j = 0 ∨ j = 1 ∨ j = 2 ∨ j = 3 ∨ j = 4 by omega) with rfl | rfl | rfl | rfl | rfl
    · by_cases h : k.pa = 0
      · have h1 : decide (k.pa = 0) = true := decide_eq_true h
        have h2 : (k.pa == 0) = true := h1
        have h3 : (k.pa != 0) = false := by rw [bne, h2]; rfl
        have HH := Lib.hid h
        clear h
        go_wp2
        go_roundw
        case rel => exact ⟨1, by omega, by first | rfl | trivial, by first | rfl | trivial, by first | exact fun _ => HH.out | trivial, by first | exact fun h => absurd h (by decide) | trivial, by first | exact fun h => absurd h (by decide) | trivial, by first | exact fun h => absurd h (by decide) | trivial⟩
        case measure => decide
      · have h1 : decide (k.pa = 0) = false := decide_eq_false h
        have h2 : (k.pa == 0) = false := h1
        have h3 : (k.pa != 0) = true := by rw [bne, h2]; rfl
        have HH := Lib.hid (show whN k = 0 from if_pos h)
        clear h
        go_wp2
        first
          | go_ret2
          | (rw [Exit.noGoto_ret]; go_ret)
          | (rw [Exit.noGoto_ret]; go_ret2)
          | (go_simp; go_ret)
        exact ⟨(by rw [HH.out]; first | done | rfl), hb⟩
    · by_cases h : 0 < k.wk.n
      · have h1 : decide ((k.wk.n : Int) > 0) = true := decide_eq_true (by omega)
        have h2 : decide ((0 : Int) < k.wk.n) = true := h1
        have HH := Lib.hid (show whN k = 1 by unfold whN; rw [if_neg (fun hh => hh (HF.out.1 (by decide))), if_pos h])
        go_wp2
        first
          | go_ret2
          | (rw [Exit.noGoto_ret]; go_ret)
          | (rw [Exit.noGoto_ret]; go_ret2)
          | (go_simp; go_ret)
        exact ⟨(by rw [HH.out]; first | done | rfl), hb⟩
      · have h1 : decide ((k.wk.n : Int) > 0) = false := decide_eq_false (by omega)
        have h2 : decide ((0 : Int) < k.wk.n) = false := h1
        have HH := Lib.hid (show k.wk.n = 0 by omega)
        go_wp2
        go_roundw
        case rel => exact ⟨2, by omega, by first | rfl | trivial, by first | rfl | trivial, by first | exact fun _ => HF.out.1 (by decide) | trivial, by first | exact fun _ => HH.out | trivial, by first | exact fun h => absurd h (by decide) | trivial, by first | exact fun h => absurd h (by decide) | trivial⟩
        case measure => decide
    · by_cases h : k.ps = 0
      · have h1 : decide (k.ps = 0) = true := decide_eq_true h
        have h2 : (k.ps == 0) = true := h1
        have h3 : (k.ps != 0) = false := by rw [bne, h2]; rfl
        have HH := Lib.hid h
        clear h
        go_wp2
        go_roundw
        case rel => exact ⟨3, by omega, by first | rfl | trivial, by first | rfl | trivial, by first | exact fun _ => HF.out.1 (by decide) | trivial, by first | exact fun _ => HF.out.2.1 (by decide) | trivial, by first | exact fun _ => HH.out | trivial, by first | exact fun h => absurd h (by decide) | trivial⟩
        case measure => decide
      · have h1 : decide (k.ps = 0) = false := decide_eq_false h
        have h2 : (k.ps == 0) = false := h1
        have h3 : (k.ps != 0) = true := by rw [bne, h2]; rfl
        have HH := Lib.hid (show whN k = 2 by unfold whN; rw [if_neg (fun hh => hh (HF.out.1 (by decide))), if_neg (by rw [HF.out.2.1 (by decide)]; decide), if_pos h])
        clear h
        go_wp2
        first
          | go_ret2
          | (rw [Exit.noGoto_ret]; go_ret)
          | (rw [Exit.noGoto_ret]; go_ret2)
          | (go_simp; go_ret)
        exact ⟨(by rw [HH.out]; first | done | rfl), hb⟩
    · cases h : k.ov
      · have HH := Lib.hid h
        rw [h] at p4
        go_wp2
        go_roundw
        case rel => exact ⟨4, by omega, by first | rfl | trivial, by first | rfl | trivial, by first | exact fun _ => HF.out.1 (by decide) | trivial, by first | exact fun _ => HF.out.2.1 (by decide) | trivial, by first | exact fun _ => HF.out.2.2.1 (by decide) | trivial, by first | exact fun _ => HH.out | trivial⟩
        case measure => decide
      · have HH := Lib.hid (show whN k = 3 by unfold whN; rw [if_neg (fun hh => hh (HF.out.1 (by decide))), if_neg (by rw [HF.out.2.1 (by decide)]; decide), if_neg (fun hh => hh (HF.out.2.2.1 (by decide))), if_pos h])
        rw [h] at p4
        go_wp2
        first
          | go_ret2
          | (rw [Exit.noGoto_ret]; go_ret)
          | (rw [Exit.noGoto_ret]; go_ret2)
          | (go_simp; go_ret)
        exact ⟨(by rw [HH.out]; first | done | rfl), hb⟩
    · have HH := Lib.hid (show whN k = 4 by unfold whN; rw [if_neg (fun hh => hh (HF.out.1 (by decide))), if_neg (by rw [HF.out.2.1 (by decide)]; decide), if_neg (fun hh => hh (HF.out.2.2.1 (by decide))), if_neg (by rw [HF.out.2.2.2 (by decide)]; decide)])
      go_wp2
      first
        | go_ret2
        | (rw [Exit.noGoto_ret]; go_ret)
        | (rw [Exit.noGoto_ret]; go_ret2)
      exact ⟨(by rw [HH.out]; first | done | rfl), hb⟩
set_option maxHeartbeats 1000000 in
theorem enter_any (k : Sh.Ks) (a : Int) (w : World) : Calls Tryz.prog 115 #[(.agg #[.int .i64 k.ph, .int .i64 k.ep, .bool k.mj, .slice k.wk.a k.wk.n k.wk.c, .bool k.ov, .int .i64 k.pa, .int .i64 k.pf, .int .i64 k.ps, .int .i64 k.pc, .bool k.me]), .int .i64 a] w fun e w' => e = .returned (.agg #[.int .i64 (kp k a 0).ph, .int .i64 (kp k a 0).ep, .bool (kp k a 0).mj, .slice (kp k a 0).wk.a (kp k a 0).wk.n (kp k a 0).wk.c, .bool (kp k a 0).ov, .int .i64 (kp k a 0).pa, .int .i64 (kp k a 0).pf, .int .i64 (kp k a 0).ps, .int .i64 (kp k a 0).pc, .bool (kp k a 0).me]) ∧ Below w.heap.size w w' := by
  go_enter Tryz.func115, Tryz.ntmps115
  go_upto_region 1 with fail
  obtain ⟨W1, hW1⟩ : ∃ W1, W1 = ((w.alloc (.cells #[.int .i64 k.ph, .int .i64 k.ep, .bool k.mj, .slice k.wk.a k.wk.n k.wk.c, .bool k.ov, .int .i64 k.pa, .int .i64 k.pf, .int .i64 k.ps, .int .i64 k.pc, .bool k.me] 30)).alloc (.cells #[.int .i64 0, .int .i64 0, .bool false, .slice none 0 0, .bool false, .int .i64 0, .int .i64 0, .int .i64 0, .int .i64 0, .bool false] 30)) := ⟨_, rfl⟩
  have S1 : Hid (Wn 2 w W1 (p4 w.heap.size (w.heap.size + 1) (w.heap.size + 2) (w.heap.size + 3)) (c4 (kv k) (kv noK0) [] []) []) := Lib.hid (by
    rw [hW1]
    exact wn_of (c := (c4 (kv k) (kv noK0) [] [])) (((lay_none w).add (kv k) 30).add (kv noK0) 30) (by decide) (all2 ⟨rfl, rfl⟩))
  rw [← hW1]
  clear hW1
  have q5 := (show Box _ (w.heap.size) (kv k) from S1.out.box 0 (by decide)).cel 5 (.int .i64 k.pa) rfl
  have q6 := (show Box _ (w.heap.size) (kv k) from S1.out.box 0 (by decide)).cel 6 (.int .i64 k.pf) rfl
  have f0 := (show Box _ (w.heap.size) (kv k) from S1.out.box 0 (by decide)).free
  go_upto_region 2 with (first
    | (refine w_int S1.out 0 (by decide) 5 a (vs := kv (kp k a k.pf)) (c' := (c4 (kv (kp k a k.pf)) (kv noK0) [] [])) (show 5 < 10 by decide) rfl (all2 ⟨rfl, rfl⟩) rfl rfl rfl rfl rfl ?_; intro W2 h2; have S2 := Lib.hid h2; clear h2)
    | (refine w_int S2.out 0 (by decide) 6 0 (vs := kv (kp k a 0)) (c' := (c4 (kv (kp k a 0)) (kv noK0) [] [])) (show 6 < 10 by decide) rfl (all2 ⟨rfl, rfl⟩) rfl rfl rfl rfl rfl ?_; intro W3 h2; have S3 := Lib.hid h2; clear h2))
  go_wp2_with (first
    | (refine w_load (ldKb (show Box _ (w.heap.size) (kv (kp k a 0)) from S3.out.box 0 (by decide))) rfl rfl rfl rfl ?_)
    | (refine w_putK S3.out 1 (by decide) (kp k a 0) (c' := (c4 (kv (kp k a 0)) (kv (kp k a 0)) [] [])) rfl (all2 ⟨rfl, rfl⟩) rfl rfl rfl rfl rfl ?_; intro W4 h2; have S4 := Lib.hid h2; clear h2))
  exact bodyPost_ret (resK rfl rfl (show Box _ (w.heap.size + 1) (kv (kp k a 0)) from S4.out.box 1 (by decide))) rfl ⟨rfl, S4.out.bel⟩
set_option maxHeartbeats 1000000 in
theorem leave_any (k : Sh.Ks) (w : World) : Calls Tryz.prog 113 #[(.agg #[.int .i64 k.ph, .int .i64 k.ep, .bool k.mj, .slice k.wk.a k.wk.n k.wk.c, .bool k.ov, .int .i64 k.pa, .int .i64 k.pf, .int .i64 k.ps, .int .i64 k.pc, .bool k.me])] w fun e w' => e = .returned (.agg #[.int .i64 (kp k 0 0).ph, .int .i64 (kp k 0 0).ep, .bool (kp k 0 0).mj, .slice (kp k 0 0).wk.a (kp k 0 0).wk.n (kp k 0 0).wk.c, .bool (kp k 0 0).ov, .int .i64 (kp k 0 0).pa, .int .i64 (kp k 0 0).pf, .int .i64 (kp k 0 0).ps, .int .i64 (kp k 0 0).pc, .bool (kp k 0 0).me]) ∧ Below w.heap.size w w' := by
  go_enter Tryz.func113, Tryz.ntmps113
  go_upto_region 1 with fail
  obtain ⟨W1, hW1⟩ : ∃ W1, W1 = ((w.alloc (.cells #[.int .i64 k.ph, .int .i64 k.ep, .bool k.mj, .slice k.wk.a k.wk.n k.wk.c, .bool k.ov, .int .i64 k.pa, .int .i64 k.pf, .int .i64 k.ps, .int .i64 k.pc, .bool k.me] 30)).alloc (.cells #[.int .i64 0, .int .i64 0, .bool false, .slice none 0 0, .bool false, .int .i64 0, .int .i64 0, .int .i64 0, .int .i64 0, .bool false] 30)) := ⟨_, rfl⟩
  have S1 : Hid (Wn 2 w W1 (p4 w.heap.size (w.heap.size + 1) (w.heap.size + 2) (w.heap.size + 3)) (c4 (kv k) (kv noK0) [] []) []) := Lib.hid (by
    rw [hW1]
    exact wn_of (c := (c4 (kv k) (kv noK0) [] [])) (((lay_none w).add (kv k) 30).add (kv noK0) 30) (by decide) (all2 ⟨rfl, rfl⟩))
  rw [← hW1]
  clear hW1
  go_wp2_with (first
    | (refine w_load (ldKb (show Box _ (w.heap.size) (kv k) from S1.out.box 0 (by decide))) rfl rfl rfl rfl ?_)
    | ((go_at_call 115); (with_reducible refine (enter_any k 0 _).mono ?_); rintro e9 w9 ⟨rfl, hb9⟩; have S2 := Lib.hid (S1.out.next hb9); clear hb9)
    | (refine w_putK S2.out 1 (by decide) (kp k 0 0) (c' := (c4 (kv k) (kv (kp k 0 0)) [] [])) rfl (all2 ⟨rfl, rfl⟩) rfl rfl rfl rfl rfl ?_; intro W4 h2; have S4 := Lib.hid h2; clear h2))
  exact bodyPost_ret (resK rfl rfl (show Box _ (w.heap.size + 1) (kv (kp k 0 0)) from S4.out.box 1 (by decide))) rfl ⟨rfl, S4.out.bel⟩
set_option maxHeartbeats 1000000 in
theorem sweep_any (k : Sh.Ks) (w : World) : Calls Tryz.prog 75 #[(.agg #[.int .i64 k.ph, .int .i64 k.ep, .bool k.mj, .slice k.wk.a k.wk.n k.wk.c, .bool k.ov, .int .i64 k.pa, .int .i64 k.pf, .int .i64 k.ps, .int .i64 k.pc, .bool k.me])] w fun e w' => e = .returned (.agg #[.int .i64 (kend k).ph, .int .i64 (kend k).ep, .bool (kend k).mj, .slice (kend k).wk.a (kend k).wk.n (kend k).wk.c, .bool (kend k).ov, .int .i64 (kend k).pa, .int .i64 (kend k).pf, .int .i64 (kend k).ps, .int .i64 (kend k).pc, .bool (kend k).me]) ∧ Below w.heap.size w w' := by
  go_enter Tryz.func75, Tryz.ntmps75
  go_upto_region 1 with fail
  obtain ⟨W1, hW1⟩ : ∃ W1, W1 = ((w.alloc (.cells #[.int .i64 k.ph, .int .i64 k.ep, .bool k.mj, .slice k.wk.a k.wk.n k.wk.c, .bool k.ov, .int .i64 k.pa, .int .i64 k.pf, .int .i64 k.ps, .int .i64 k.pc, .bool k.me] 30)).alloc (.cells #[.int .i64 0, .int .i64 0, .bool false, .slice none 0 0, .bool false, .int .i64 0, .int .i64 0, .int .i64 0, .int .i64 0, .bool false] 30)) := ⟨_, rfl⟩
  have S1 : Hid (Wn 2 w W1 (p4 w.heap.size (w.heap.size + 1) (w.heap.size + 2) (w.heap.size + 3)) (c4 (kv k) (kv noK0) [] []) []) := Lib.hid (by
    rw [hW1]
    exact wn_of (c := (c4 (kv k) (kv noK0) [] [])) (((lay_none w).add (kv k) 30).add (kv noK0) 30) (by decide) (all2 ⟨rfl, rfl⟩))
  rw [← hW1]
  clear hW1
  go_upto_region 2 with (first
    | (refine w_load (ldKb (show Box _ (w.heap.size) (kv k) from S1.out.box 0 (by decide))) rfl rfl rfl rfl ?_)
    | ((go_at_call 113); (with_reducible refine (leave_any k _).mono ?_); rintro e9 w9 ⟨rfl, hb9⟩; have S2 := Lib.hid (S1.out.next hb9); clear hb9)
    | (refine w_putK S2.out 0 (by decide) (kp k 0 0) (c' := (c4 (kv (kp k 0 0)) (kv noK0) [] [])) rfl (all2 ⟨rfl, rfl⟩) rfl rfl rfl rfl rfl ?_; intro W4 h2; have S3 := Lib.hid h2; clear h2))
  have f0 := (show Box _ (w.heap.size) (kv (kp k 0 0)) from S3.out.box 0 (by decide)).free
  go_upto_region 3 with (first
    | (refine w_int S3.out 0 (by decide) 0 6 (vs := kv (⟨6, k.ep, k.mj, k.wk, k.ov, 0, 0, k.ps, k.pc, k.me⟩ : Sh.Ks)) (c' := (c4 (kv (⟨6, k.ep, k.mj, k.wk, k.ov, 0, 0, k.ps, k.pc, k.me⟩ : Sh.Ks)) (kv noK0) [] [])) (show 0 < 10 by decide) rfl (all2 ⟨rfl, rfl⟩) rfl rfl rfl rfl rfl ?_; intro WS4 h2; have S4 := Lib.hid h2; clear h2)
    | (refine w_int S4.out 0 (by decide) 7 0 (vs := kv (⟨6, k.ep, k.mj, k.wk, k.ov, 0, 0, 0, k.pc, k.me⟩ : Sh.Ks)) (c' := (c4 (kv (⟨6, k.ep, k.mj, k.wk, k.ov, 0, 0, 0, k.pc, k.me⟩ : Sh.Ks)) (kv noK0) [] [])) (show 7 < 10 by decide) rfl (all2 ⟨rfl, rfl⟩) rfl rfl rfl rfl rfl ?_; intro WS5 h2; have S5 := Lib.hid h2; clear h2)
    | (refine w_int S5.out 0 (by decide) 8 0 (vs := kv (⟨6, k.ep, k.mj, k.wk, k.ov, 0, 0, 0, 0, k.me⟩ : Sh.Ks)) (c' := (c4 (kv (⟨6, k.ep, k.mj, k.wk, k.ov, 0, 0, 0, 0, k.me⟩ : Sh.Ks)) (kv noK0) [] [])) (show 8 < 10 by decide) rfl (all2 ⟨rfl, rfl⟩) rfl rfl rfl rfl rfl ?_; intro WS6 h2; have S6 := Lib.hid h2; clear h2)
    | (refine w_bool S6.out 0 (by decide) 9 false (vs := kv (kend k : Sh.Ks)) (c' := (c4 (kv (kend k : Sh.Ks)) (kv noK0) [] [])) (show 9 < 10 by decide) rfl (all2 ⟨rfl, rfl⟩) rfl rfl rfl rfl rfl ?_; intro WS7 h2; have S7 := Lib.hid h2; clear h2))
  go_wp2_with (first
    | (refine w_load (ldKb (show Box _ (w.heap.size) (kv (kend k)) from S7.out.box 0 (by decide))) rfl rfl rfl rfl ?_)
    | (refine w_putK S7.out 1 (by decide) (kend k) (c' := (c4 (kv (kend k)) (kv (kend k)) [] [])) rfl (all2 ⟨rfl, rfl⟩) rfl rfl rfl rfl rfl ?_; intro W8 h2; have S8 := Lib.hid h2; clear h2))
  exact bodyPost_ret (resK rfl rfl (show Box _ (w.heap.size + 1) (kv (kend k)) from S8.out.box 1 (by decide))) rfl ⟨rfl, S8.out.bel⟩
end Go.Proofs.YtccjelpfmkbmiaaGreatDoor.Tr
end
