/-
  Merged texts: ShBlack, LsInts, ShGrey, ShListed, PgSame, HpSame, ShLaw, HpAwake, ShAwake.
-/
import Derived.Test.YtdmclfolooiccaaDoorSShShade
import Derived.Test.YtdmclfolooiccaaDoorHpSD
import Derived.Deep.QuietTactic
import Derived.BigQuiet
import Derived.Test.YtdmclfolooiccaaDoorHpSF
import Derived.Test.YtdmclfolooiccaaDoorHpSE
import Derived.Test.YtdmclfolooiccaaDoorHpSB
import Derived.Test.YtdmclfolooiccaaDoorHpSC
import Derived.Deep.CutRange
section
namespace Go.Proofs.YtdmclfolooiccaaDoor.Sh
open Go.Proofs.YtdmclfolooiccaaDoor
open Go.RowKit
set_option maxRecDepth 100000

/-- What Black leaves. -/
def BlOut (w : World) (s : Hs) (d' : Hd_) (c : Bool) (e : Ending) (w' : World) : Prop :=
  ∃ t : Hs, e = .returned (.tuple #[(.agg #[.slice t.w.a t.w.n t.w.c, .slice t.p.a t.p.n t.p.c, .slice (t.u 0).a (t.u 0).n (t.u 0).c, .slice (t.u 1).a (t.u 1).n (t.u 1).c, .slice (t.u 2).a (t.u 2).n (t.u 2).c, .slice t.c.a t.c.n t.c.c]), .bool c]) ∧ Hp w' w'.heap.size t d' ∧ Lens s t ∧ Below w.heap.size w w'
/-- The boxes of a walk through Black. -/
structure Bw (w W : World) (s : Hs) (d : Hd_) (k : Ks) (xs : List Int) : Prop where
  bel : Below w.heap.size w W
  hb : Box6 W w.heap.size s
  kb : CBox W (w.heap.size + 1) k
  rb : T6 W (w.heap.size + 2)
  hp0 : Hp w w.heap.size s d
  wr0 : WRow w w.heap.size k xs
section
variable {w W W' w3 : World} {s t : Hs} {d d' : Hd_} {k : Ks} {xs ys : List Int} {b : Nat}
theorem Bw.hp (h : Bw w W s d k xs) : Hp W W.heap.size s d := h.hp0.next h.bel
theorem Bw.wr (h : Bw w W s d k xs) : WRow W W.heap.size k xs := h.wr0.next h.bel
theorem Bw.same (h : Bw w W s d k xs) (hb : Below (w.heap.size + 3) W W') : Bw w W' s d k xs := by
  have hs : ∀ g, g < w.heap.size + 3 → W'.heap[g]? = W.heap[g]? := fun g hg => hb.block g hg
  exact ⟨h.bel.trans (hb.mono (by omega)), h.hb.same (hs _ (by omega)) hb.size, h.kb.same (hs _ (by omega)) hb.size, h.rb.same (hs _ (by omega)) hb.size, h.hp0, h.wr0⟩
theorem Bw.next (h : Bw w W s d k xs) (hb : Below W.heap.size W W') : Bw w W' s d k xs := h.same (hb.mono (by have := h.rb.lt; omega))
theorem bw_start {t1 t2 t3 : TypeId} (hp : Hp w w.heap.size s d) (hk : WRow w w.heap.size k xs) (h : W = ((w.alloc (.cells #[.slice s.w.a s.w.n s.w.c, .slice s.p.a s.p.n s.p.c, .slice (s.u 0).a (s.u 0).n (s.u 0).c, .slice (s.u 1).a (s.u 1).n (s.u 1).c, .slice (s.u 2).a (s.u 2).n (s.u 2).c, .slice s.c.a s.c.n s.c.c] t1)).alloc (.cells #[.int .i64 k.ph, .int .i64 k.ep, .bool k.mj, .slice k.wk.a k.wk.n k.wk.c, .bool k.ov, .int .i64 k.pa, .int .i64 k.pf, .int .i64 k.ps, .int .i64 k.pc, .bool k.me] t2)).alloc (.cells #[.slice none 0 0, .slice none 0 0, .slice none 0 0, .slice none 0 0, .slice none 0 0, .slice none 0 0] t3)) : Bw w W s d k xs := by
  have z1 : (w.alloc (.cells #[.slice s.w.a s.w.n s.w.c, .slice s.p.a s.p.n s.p.c, .slice (s.u 0).a (s.u 0).n (s.u 0).c, .slice (s.u 1).a (s.u 1).n (s.u 1).c, .slice (s.u 2).a (s.u 2).n (s.u 2).c, .slice s.c.a s.c.n s.c.c] t1)).heap.size = w.heap.size + 1 := World.size_alloc _ _
  have z2 : ((w.alloc (.cells #[.slice s.w.a s.w.n s.w.c, .slice s.p.a s.p.n s.p.c, .slice (s.u 0).a (s.u 0).n (s.u 0).c, .slice (s.u 1).a (s.u 1).n (s.u 1).c, .slice (s.u 2).a (s.u 2).n (s.u 2).c, .slice s.c.a s.c.n s.c.c] t1)).alloc (.cells #[.int .i64 k.ph, .int .i64 k.ep, .bool k.mj, .slice k.wk.a k.wk.n k.wk.c, .bool k.ov, .int .i64 k.pa, .int .i64 k.pf, .int .i64 k.ps, .int .i64 k.pc, .bool k.me] t2)).heap.size = w.heap.size + 2 := by rw [World.size_alloc, z1]
  have b3 : Below ((w.alloc (.cells #[.slice s.w.a s.w.n s.w.c, .slice s.p.a s.p.n s.p.c, .slice (s.u 0).a (s.u 0).n (s.u 0).c, .slice (s.u 1).a (s.u 1).n (s.u 1).c, .slice (s.u 2).a (s.u 2).n (s.u 2).c, .slice s.c.a s.c.n s.c.c] t1)).alloc (.cells #[.int .i64 k.ph, .int .i64 k.ep, .bool k.mj, .slice k.wk.a k.wk.n k.wk.c, .bool k.ov, .int .i64 k.pa, .int .i64 k.pf, .int .i64 k.ps, .int .i64 k.pc, .bool k.me] t2)).heap.size ((w.alloc (.cells #[.slice s.w.a s.w.n s.w.c, .slice s.p.a s.p.n s.p.c, .slice (s.u 0).a (s.u 0).n (s.u 0).c, .slice (s.u 1).a (s.u 1).n (s.u 1).c, .slice (s.u 2).a (s.u 2).n (s.u 2).c, .slice s.c.a s.c.n s.c.c] t1)).alloc (.cells #[.int .i64 k.ph, .int .i64 k.ep, .bool k.mj, .slice k.wk.a k.wk.n k.wk.c, .bool k.ov, .int .i64 k.pa, .int .i64 k.pf, .int .i64 k.ps, .int .i64 k.pc, .bool k.me] t2)) W := by rw [h]; exact (Below.refl _ _).alloc (Nat.le_refl _) _
  have b2 : Below (w.alloc (.cells #[.slice s.w.a s.w.n s.w.c, .slice s.p.a s.p.n s.p.c, .slice (s.u 0).a (s.u 0).n (s.u 0).c, .slice (s.u 1).a (s.u 1).n (s.u 1).c, .slice (s.u 2).a (s.u 2).n (s.u 2).c, .slice s.c.a s.c.n s.c.c] t1)).heap.size (w.alloc (.cells #[.slice s.w.a s.w.n s.w.c, .slice s.p.a s.p.n s.p.c, .slice (s.u 0).a (s.u 0).n (s.u 0).c, .slice (s.u 1).a (s.u 1).n (s.u 1).c, .slice (s.u 2).a (s.u 2).n (s.u 2).c, .slice s.c.a s.c.n s.c.c] t1)) W := ((Below.refl _ _).alloc (Nat.le_refl _) _).trans (b3.mono (by omega))
  have b1 : Below w.heap.size w W := ((Below.refl _ _).alloc (Nat.le_refl _) _).trans (b2.mono (by omega))
  have x2 := (CBox.new (w.alloc (.cells #[.slice s.w.a s.w.n s.w.c, .slice s.p.a s.p.n s.p.c, .slice (s.u 0).a (s.u 0).n (s.u 0).c, .slice (s.u 1).a (s.u 1).n (s.u 1).c, .slice (s.u 2).a (s.u 2).n (s.u 2).c, .slice s.c.a s.c.n s.c.c] t1)) k t2).next b3
  have x3 := box6_new ((w.alloc (.cells #[.slice s.w.a s.w.n s.w.c, .slice s.p.a s.p.n s.p.c, .slice (s.u 0).a (s.u 0).n (s.u 0).c, .slice (s.u 1).a (s.u 1).n (s.u 1).c, .slice (s.u 2).a (s.u 2).n (s.u 2).c, .slice s.c.a s.c.n s.c.c] t1)).alloc (.cells #[.int .i64 k.ph, .int .i64 k.ep, .bool k.mj, .slice k.wk.a k.wk.n k.wk.c, .bool k.ov, .int .i64 k.pa, .int .i64 k.pf, .int .i64 k.ps, .int .i64 k.pc, .bool k.me] t2)) noHs t3
  rw [z1] at x2
  rw [z2] at x3
  exact ⟨b1, (box6_new w s t1).next b2, x2, by rw [h]; exact t6_of x3, hp, hk⟩
theorem res_black {c : Value} {tm : Array Value} {v0 v1 v2 v3 v4 v5 : Value} (h6 : tm[6]? = some (.pointer (some ⟨b, 0, none⟩))) (h7 : tm[7]? = some c) (k0 : W.cell? ⟨b, 0, none⟩ = some v0) (k1 : W.cell? ⟨b, 1, none⟩ = some v1) (k2 : W.cell? ⟨b, 2, none⟩ = some v2) (k3 : W.cell? ⟨b, 3, none⟩ = some v3) (k4 : W.cell? ⟨b, 4, none⟩ = some v4) (k5 : W.cell? ⟨b, 5, none⟩ = some v5) :
    (results Tryd.f19 tm).run Tryd.prog W = .ok (.tuple #[.agg #[v0, v1, v2, v3, v4, v5], c]) W := by
  simp [results, Tryd.results19, go_sem, h6, h7, k0, k1, k2, k3, k4, k5]
theorem bl_end {c : Bool} (v0 v1 v2 v3 v4 v5 : Value) (bel : Below w.heap.size w W) (hp : Hp W W.heap.size t d') (hl : Lens s t) (nw : News (w.heap.size + 3) t) : BlOut w s d' c (.returned (.tuple #[(.agg #[.slice t.w.a t.w.n t.w.c, .slice t.p.a t.p.n t.p.c, .slice (t.u 0).a (t.u 0).n (t.u 0).c, .slice (t.u 1).a (t.u 1).n (t.u 1).c, .slice (t.u 2).a (t.u 2).n (t.u 2).c, .slice t.c.a t.c.n t.c.c]), .bool c])) (put6 W (w.heap.size + 2) v0 v1 v2 v3 v4 v5) :=
  ⟨t, rfl, nw.kept hp (fun g h1 _ => put6_other _ _ _ _ _ _ _ _ (by omega)) (Nat.le_of_eq (put6_size _ _ _ _ _ _ _ _).symm), hl, below_put6 bel (by omega) _ _ _ _ _ _⟩
end
section
variable (s : Hs) (d : Hd_) (k : Ks) (xs : List Int) (a : Int) (w : World)
set_option maxHeartbeats 4000000 in
theorem black_no (u o e : Bool) (n b m : Int) (hp : Hp w w.heap.size s d) (hk : WRow w w.heap.size k xs) (hF : ∀ W, Bw w W s d k xs → Calls Tryd.prog 29 #[(.agg #[.slice s.w.a s.w.n s.w.c, .slice s.p.a s.p.n s.p.c, .slice (s.u 0).a (s.u 0).n (s.u 0).c, .slice (s.u 1).a (s.u 1).n (s.u 1).c, .slice (s.u 2).a (s.u 2).n (s.u 2).c, .slice s.c.a s.c.n s.c.c]), (.agg #[.int .i64 k.ph, .int .i64 k.ep, .bool k.mj, .slice k.wk.a k.wk.n k.wk.c, .bool k.ov, .int .i64 k.pa, .int .i64 k.pf, .int .i64 k.ps, .int .i64 k.pc, .bool k.me]), .int .i64 a, .int .i64 2] W (FindOut W (.agg #[.bool u, .bool o, .bool e, .int .i64 n, .int .i64 b, .int .i64 m]) false)) (hC : ∀ W, Bw w W s d k xs → Calls Tryd.prog 30 #[(.agg #[.slice s.w.a s.w.n s.w.c, .slice s.p.a s.p.n s.p.c, .slice (s.u 0).a (s.u 0).n (s.u 0).c, .slice (s.u 1).a (s.u 1).n (s.u 1).c, .slice (s.u 2).a (s.u 2).n (s.u 2).c, .slice s.c.a s.c.n s.c.c])] W (FreshW W s d)) : Calls Tryd.prog 19 #[(.agg #[.slice s.w.a s.w.n s.w.c, .slice s.p.a s.p.n s.p.c, .slice (s.u 0).a (s.u 0).n (s.u 0).c, .slice (s.u 1).a (s.u 1).n (s.u 1).c, .slice (s.u 2).a (s.u 2).n (s.u 2).c, .slice s.c.a s.c.n s.c.c]), (.agg #[.int .i64 k.ph, .int .i64 k.ep, .bool k.mj, .slice k.wk.a k.wk.n k.wk.c, .bool k.ov, .int .i64 k.pa, .int .i64 k.pf, .int .i64 k.ps, .int .i64 k.pc, .bool k.me]), .int .i64 a] w (BlOut w s d false) := by
  have HP := Lib.hid hp
  have HK := Lib.hid hk
  have HF := Lib.hid hF
  have HC := Lib.hid hC
  clear hp hk hF hC
  go_enter Tryd.func19, Tryd.ntmps19
  go_upto_region 1 with fail
  obtain ⟨W0, hW0⟩ : ∃ W0, W0 = ((w.alloc (.cells #[.slice s.w.a s.w.n s.w.c, .slice s.p.a s.p.n s.p.c, .slice (s.u 0).a (s.u 0).n (s.u 0).c, .slice (s.u 1).a (s.u 1).n (s.u 1).c, .slice (s.u 2).a (s.u 2).n (s.u 2).c, .slice s.c.a s.c.n s.c.c] 28)).alloc (.cells #[.int .i64 k.ph, .int .i64 k.ep, .bool k.mj, .slice k.wk.a k.wk.n k.wk.c, .bool k.ov, .int .i64 k.pa, .int .i64 k.pf, .int .i64 k.ps, .int .i64 k.pc, .bool k.me] 30)).alloc (.cells #[.slice none 0 0, .slice none 0 0, .slice none 0 0, .slice none 0 0, .slice none 0 0, .slice none 0 0] 28) := ⟨_, rfl⟩
  have K0 := Lib.hid (bw_start HP.out HK.out hW0)
  rw [← hW0]
  clear hW0
  have q0 := (K0.out.hb.box).c0
  have q1 := (K0.out.hb.box).c1
  have q2 := (K0.out.hb.box).c2
  have q3 := (K0.out.hb.box).c3
  have q4 := (K0.out.hb.box).c4
  have q5 := (K0.out.hb.box).c5
  have ql := (K0.out.hb.box).lt
  have p0 := (K0.out.kb).c0
  have p1 := (K0.out.kb).c1
  have p2 := (K0.out.kb).c2
  have p3 := (K0.out.kb).c3
  have p4 := (K0.out.kb).c4
  have p5 := (K0.out.kb).c5
  have p6 := (K0.out.kb).c6
  have p7 := (K0.out.kb).c7
  have p8 := (K0.out.kb).c8
  have p9 := (K0.out.kb).c9
  have pl := (K0.out.kb).lt
  go_wp2_with fail
  refine (HF.out W0 K0.out).mono ?_
  rintro e9 w3 ⟨rfl, hb3⟩
  have K3 := Lib.hid (K0.out.next hb3)
  clear hb3 K0
  clear q0 q1 q2 q3 q4 q5 ql
  clear p0 p1 p2 p3 p4 p5 p6 p7 p8 p9 pl
  have K4 := Lib.hid (K3.out.next ((Below.refl w3.heap.size w3).alloc (Nat.le_refl _) (.cells #[.bool u, .bool o, .bool e, .int .i64 n, .int .i64 b, .int .i64 m] 43)))
  clear K3
  go_upto_region 3 with fail
  generalize w3.alloc (.cells #[.bool u, .bool o, .bool e, .int .i64 n, .int .i64 b, .int .i64 m] 43) = W4 at K4 ⊢
  have q0 := (K4.out.hb.box).c0
  have q1 := (K4.out.hb.box).c1
  have q2 := (K4.out.hb.box).c2
  have q3 := (K4.out.hb.box).c3
  have q4 := (K4.out.hb.box).c4
  have q5 := (K4.out.hb.box).c5
  have ql := (K4.out.hb.box).lt
  go_wp2_with fail
  refine (HC.out W4 K4.out).mono ?_
  rintro e9 w5 ⟨t, rfl, ht, hl, hw, hb5⟩
  have K5 := Lib.hid (K4.out.next hb5)
  have T5 := Lib.hid (And.intro ht (And.intro hl (news_less hw (show w.heap.size + 3 ≤ _ from K4.out.rb.lt))))
  clear ht hl hw hb5 K4
  clear q0 q1 q2 q3 q4 q5 ql
  obtain ⟨x0, h0⟩ := K5.out.rb.has 0 (by decide)
  obtain ⟨x1, h1⟩ := K5.out.rb.has 1 (by decide)
  obtain ⟨x2, h2⟩ := K5.out.rb.has 2 (by decide)
  obtain ⟨x3, h3⟩ := K5.out.rb.has 3 (by decide)
  obtain ⟨x4, h4⟩ := K5.out.rb.has 4 (by decide)
  obtain ⟨x5, h5⟩ := K5.out.rb.has 5 (by decide)
  have xl := K5.out.rb.lt
  have y0 := K5.out.rb.free 0
  have y1 := K5.out.rb.free 1
  have y2 := K5.out.rb.free 2
  have y3 := K5.out.rb.free 3
  have y4 := K5.out.rb.free 4
  have y5 := K5.out.rb.free 5
  go_wp2
  refine bodyPost_ret (v := .tuple #[(.agg #[.slice t.w.a t.w.n t.w.c, .slice t.p.a t.p.n t.p.c, .slice (t.u 0).a (t.u 0).n (t.u 0).c, .slice (t.u 1).a (t.u 1).n (t.u 1).c, .slice (t.u 2).a (t.u 2).n (t.u 2).c, .slice t.c.a t.c.n t.c.c]), .bool false]) ?_ rfl (bl_end _ _ _ _ _ _ K5.out.bel T5.out.1 T5.out.2.1 T5.out.2.2)
  obtain ⟨k0, k1, k2, k3, k4, k5⟩ := put6_t6 K5.out.rb (.slice t.w.a t.w.n t.w.c) (.slice t.p.a t.p.n t.p.c) (.slice (t.u 0).a (t.u 0).n (t.u 0).c) (.slice (t.u 1).a (t.u 1).n (t.u 1).c) (.slice (t.u 2).a (t.u 2).n (t.u 2).c) (.slice t.c.a t.c.n t.c.c)
  exact res_black rfl rfl k0 k1 k2 k3 k4 k5
set_option maxHeartbeats 4000000 in
theorem black_yes (o e : Bool) (n b m : Int) (d' : Hd_) (hp : Hp w w.heap.size s d) (hk : WRow w w.heap.size k xs) (hF : ∀ W, Bw w W s d k xs → Calls Tryd.prog 29 #[(.agg #[.slice s.w.a s.w.n s.w.c, .slice s.p.a s.p.n s.p.c, .slice (s.u 0).a (s.u 0).n (s.u 0).c, .slice (s.u 1).a (s.u 1).n (s.u 1).c, .slice (s.u 2).a (s.u 2).n (s.u 2).c, .slice s.c.a s.c.n s.c.c]), (.agg #[.int .i64 k.ph, .int .i64 k.ep, .bool k.mj, .slice k.wk.a k.wk.n k.wk.c, .bool k.ov, .int .i64 k.pa, .int .i64 k.pf, .int .i64 k.ps, .int .i64 k.pc, .bool k.me]), .int .i64 a, .int .i64 2] W (FindOut W (.agg #[.bool true, .bool o, .bool e, .int .i64 n, .int .i64 b, .int .i64 m]) true)) (hS : ∀ W, Bw w W s d k xs → Calls Tryd.prog 31 #[(.agg #[.slice s.w.a s.w.n s.w.c, .slice s.p.a s.p.n s.p.c, .slice (s.u 0).a (s.u 0).n (s.u 0).c, .slice (s.u 1).a (s.u 1).n (s.u 1).c, .slice (s.u 2).a (s.u 2).n (s.u 2).c, .slice s.c.a s.c.n s.c.c]), .int .i64 a, (.agg #[.bool true, .bool o, .bool true, .int .i64 n, .int .i64 b, .int .i64 m])] W (SetOkN W s d')) : Calls Tryd.prog 19 #[(.agg #[.slice s.w.a s.w.n s.w.c, .slice s.p.a s.p.n s.p.c, .slice (s.u 0).a (s.u 0).n (s.u 0).c, .slice (s.u 1).a (s.u 1).n (s.u 1).c, .slice (s.u 2).a (s.u 2).n (s.u 2).c, .slice s.c.a s.c.n s.c.c]), (.agg #[.int .i64 k.ph, .int .i64 k.ep, .bool k.mj, .slice k.wk.a k.wk.n k.wk.c, .bool k.ov, .int .i64 k.pa, .int .i64 k.pf, .int .i64 k.ps, .int .i64 k.pc, .bool k.me]), .int .i64 a] w (BlOut w s d' true) := by
  have HP := Lib.hid hp
  have HK := Lib.hid hk
  have HF := Lib.hid hF
  have HC := Lib.hid hS
  clear hp hk hF hS
  go_enter Tryd.func19, Tryd.ntmps19
  go_upto_region 1 with fail
  obtain ⟨W0, hW0⟩ : ∃ W0, W0 = ((w.alloc (.cells #[.slice s.w.a s.w.n s.w.c, .slice s.p.a s.p.n s.p.c, .slice (s.u 0).a (s.u 0).n (s.u 0).c, .slice (s.u 1).a (s.u 1).n (s.u 1).c, .slice (s.u 2).a (s.u 2).n (s.u 2).c, .slice s.c.a s.c.n s.c.c] 28)).alloc (.cells #[.int .i64 k.ph, .int .i64 k.ep, .bool k.mj, .slice k.wk.a k.wk.n k.wk.c, .bool k.ov, .int .i64 k.pa, .int .i64 k.pf, .int .i64 k.ps, .int .i64 k.pc, .bool k.me] 30)).alloc (.cells #[.slice none 0 0, .slice none 0 0, .slice none 0 0, .slice none 0 0, .slice none 0 0, .slice none 0 0] 28) := ⟨_, rfl⟩
  have K0 := Lib.hid (bw_start HP.out HK.out hW0)
  rw [← hW0]
  clear hW0
  have q0 := (K0.out.hb.box).c0
  have q1 := (K0.out.hb.box).c1
  have q2 := (K0.out.hb.box).c2
  have q3 := (K0.out.hb.box).c3
  have q4 := (K0.out.hb.box).c4
  have q5 := (K0.out.hb.box).c5
  have ql := (K0.out.hb.box).lt
  have p0 := (K0.out.kb).c0
  have p1 := (K0.out.kb).c1
  have p2 := (K0.out.kb).c2
  have p3 := (K0.out.kb).c3
  have p4 := (K0.out.kb).c4
  have p5 := (K0.out.kb).c5
  have p6 := (K0.out.kb).c6
  have p7 := (K0.out.kb).c7
  have p8 := (K0.out.kb).c8
  have p9 := (K0.out.kb).c9
  have pl := (K0.out.kb).lt
  go_wp2_with fail
  refine (HF.out W0 K0.out).mono ?_
  rintro e9 w3 ⟨rfl, hb3⟩
  have K3 := Lib.hid (K0.out.next hb3)
  clear hb3 K0
  clear q0 q1 q2 q3 q4 q5 ql
  clear p0 p1 p2 p3 p4 p5 p6 p7 p8 p9 pl
  go_upto_region 4 with fail
  obtain ⟨W4, hW4⟩ : ∃ W4, W4 = w3.alloc (.cells #[.bool true, .bool o, .bool e, .int .i64 n, .int .i64 b, .int .i64 m] 43) := ⟨_, rfl⟩
  have X4 : Hid (X6 W4 w3.heap.size true o e n b m ∧ ∀ j, W4.frozen? ⟨w3.heap.size, j, none⟩ = false) := Lib.hid ⟨by rw [hW4]; exact X6.new w3 true o e n b m _, fun j => by rw [hW4]; simp [go_sem]⟩
  have hb3 : Below w3.heap.size w3 W4 := by rw [hW4]; exact (Below.refl _ _).alloc (Nat.le_refl _) _
  have K4 := Lib.hid (K3.out.next hb3)
  obtain ⟨b5, hb5⟩ : ∃ b5, b5 = w3.heap.size := ⟨_, rfl⟩
  have V4 : Hid (w.heap.size + 3 ≤ b5) := Lib.hid (by have := K3.out.rb.lt; omega)
  rw [← hb5] at X4
  rw [← hW4, ← hb5]
  clear hW4 hb3 hb5 K3
  have x0 := (X4.out.1).c0
  have x1 := (X4.out.1).c1
  have x2 := (X4.out.1).c2
  have x3 := (X4.out.1).c3
  have x4 := (X4.out.1).c4
  have x5 := (X4.out.1).c5
  have xl := (X4.out.1).lt
  have y2 := X4.out.2 2
  go_upto_region 5 with fail
  obtain ⟨W5, hW5⟩ : ∃ W5, W5 = W4.setCell ⟨b5, 2, none⟩ (.bool true) := ⟨_, rfl⟩
  have hbl5 : Below (w.heap.size + 3) W4 W5 := by rw [hW5]; exact (Below.refl _ _).setCell (p := ⟨b5, 2, none⟩) V4.out _
  have K5 := Lib.hid (K4.out.same hbl5)
  have X5 : Hid (X6 W5 b5 true o true n b m) := Lib.hid (by
    rw [hW5]
    have h := X4.out.1
    exact ⟨cell_set h.c0 rfl, cell_set h.c1 rfl, cell_set h.c2 rfl, cell_set h.c3 rfl, cell_set h.c4 rfl, cell_set h.c5 rfl, by simp only [World.size_setCell]; exact h.lt⟩)
  rw [← hW5]
  clear hW5 hbl5 y2 K4 X4
  clear x0 x1 x2 x3 x4 x5 xl
  have x0 := (X5.out).c0
  have x1 := (X5.out).c1
  have x2 := (X5.out).c2
  have x3 := (X5.out).c3
  have x4 := (X5.out).c4
  have x5 := (X5.out).c5
  have xl := (X5.out).lt
  have q0 := (K5.out.hb.box).c0
  have q1 := (K5.out.hb.box).c1
  have q2 := (K5.out.hb.box).c2
  have q3 := (K5.out.hb.box).c3
  have q4 := (K5.out.hb.box).c4
  have q5 := (K5.out.hb.box).c5
  have ql := (K5.out.hb.box).lt
  go_wp2_with fail
  refine (HC.out W5 K5.out).mono ?_
  rintro e9 w6 ⟨t, rfl, ht, hl, hw, hb6⟩
  have K6 := Lib.hid (K5.out.next hb6)
  have T6 := Lib.hid (And.intro ht (And.intro hl (news_less hw (show w.heap.size + 3 ≤ _ from K5.out.rb.lt))))
  clear ht hl hw hb6 V4
  clear x0 x1 x2 x3 x4 x5 xl
  clear q0 q1 q2 q3 q4 q5 ql
  have q0 := (K6.out.hb.box).c0
  have q1 := (K6.out.hb.box).c1
  have q2 := (K6.out.hb.box).c2
  have q3 := (K6.out.hb.box).c3
  have q4 := (K6.out.hb.box).c4
  have q5 := (K6.out.hb.box).c5
  have ql := (K6.out.hb.box).lt
  have y0 := (K6.out.hb).free 0
  have y1 := (K6.out.hb).free 1
  have y2 := (K6.out.hb).free 2
  have y3 := (K6.out.hb).free 3
  have y4 := (K6.out.hb).free 4
  have y5 := (K6.out.hb).free 5
  go_upto_region 6 with fail
  obtain ⟨W7, hW7⟩ : ∃ W7, W7 = (((((w6.setCell ⟨w.heap.size, 0, none⟩ (.slice t.w.a t.w.n t.w.c)).setCell ⟨w.heap.size, 1, none⟩ (.slice t.p.a t.p.n t.p.c)).setCell ⟨w.heap.size, 2, none⟩ (.slice (t.u 0).a (t.u 0).n (t.u 0).c)).setCell ⟨w.heap.size, 3, none⟩ (.slice (t.u 1).a (t.u 1).n (t.u 1).c)).setCell ⟨w.heap.size, 4, none⟩ (.slice (t.u 2).a (t.u 2).n (t.u 2).c)).setCell ⟨w.heap.size, 5, none⟩ (.slice t.c.a t.c.n t.c.c) := ⟨_, rfl⟩
  have hW7' : W7 = put6 w6 w.heap.size (.slice t.w.a t.w.n t.w.c) (.slice t.p.a t.p.n t.p.c) (.slice (t.u 0).a (t.u 0).n (t.u 0).c) (.slice (t.u 1).a (t.u 1).n (t.u 1).c) (.slice (t.u 2).a (t.u 2).n (t.u 2).c) (.slice t.c.a t.c.n t.c.c) := hW7
  have hs7 : ∀ g, ¬ g = w.heap.size → W7.heap[g]? = w6.heap[g]? := fun g hg => by rw [hW7']; exact put6_other _ _ _ _ _ _ _ _ hg
  have hz7 : w6.heap.size = W7.heap.size := by rw [hW7', put6_size]
  have K7 : Hid (Below w.heap.size w W7 ∧ Hp W7 W7.heap.size t d' ∧ Lens s t ∧ News (w.heap.size + 3) t) := Lib.hid ⟨by rw [hW7']; exact below_put6 K6.out.bel (Nat.le_refl _) _ _ _ _ _ _, T6.out.2.2.kept T6.out.1 (fun g h1 _ => hs7 g (by omega)) (Nat.le_of_eq hz7), T6.out.2.1, T6.out.2.2⟩
  have R7 : Hid (Sh.T6 W7 (w.heap.size + 2)) := Lib.hid (K6.out.rb.same (hs7 _ (by omega)) (Nat.le_of_eq hz7))
  have B7 : Hid (HBox W7 w.heap.size t) := Lib.hid (by
    obtain ⟨k0, k1, k2, k3, k4, k5⟩ := put6_at K6.out.hb (.slice t.w.a t.w.n t.w.c) (.slice t.p.a t.p.n t.p.c) (.slice (t.u 0).a (t.u 0).n (t.u 0).c) (.slice (t.u 1).a (t.u 1).n (t.u 1).c) (.slice (t.u 2).a (t.u 2).n (t.u 2).c) (.slice t.c.a t.c.n t.c.c)
    rw [← hW7'] at k0 k1 k2 k3 k4 k5
    exact ⟨k0, k1, k2, k3, k4, k5, by rw [← hz7]; exact K6.out.hb.box.lt⟩)
  rw [← hW7]
  clear hW7 hW7' hs7 hz7 K6 T6 K5 X5
  clear q0 q1 q2 q3 q4 q5 ql
  clear y0 y1 y2 y3 y4 y5
  have q0 := (B7.out).c0
  have q1 := (B7.out).c1
  have q2 := (B7.out).c2
  have q3 := (B7.out).c3
  have q4 := (B7.out).c4
  have q5 := (B7.out).c5
  have ql := (B7.out).lt
  obtain ⟨x0, h0⟩ := R7.out.has 0 (by decide)
  obtain ⟨x1, h1⟩ := R7.out.has 1 (by decide)
  obtain ⟨x2, h2⟩ := R7.out.has 2 (by decide)
  obtain ⟨x3, h3⟩ := R7.out.has 3 (by decide)
  obtain ⟨x4, h4⟩ := R7.out.has 4 (by decide)
  obtain ⟨x5, h5⟩ := R7.out.has 5 (by decide)
  have xl := R7.out.lt
  have y0 := R7.out.free 0
  have y1 := R7.out.free 1
  have y2 := R7.out.free 2
  have y3 := R7.out.free 3
  have y4 := R7.out.free 4
  have y5 := R7.out.free 5
  go_wp2
  refine bodyPost_ret (v := .tuple #[(.agg #[.slice t.w.a t.w.n t.w.c, .slice t.p.a t.p.n t.p.c, .slice (t.u 0).a (t.u 0).n (t.u 0).c, .slice (t.u 1).a (t.u 1).n (t.u 1).c, .slice (t.u 2).a (t.u 2).n (t.u 2).c, .slice t.c.a t.c.n t.c.c]), .bool true]) ?_ rfl (bl_end _ _ _ _ _ _ K7.out.1 K7.out.2.1 K7.out.2.2.1 K7.out.2.2.2)
  obtain ⟨k0, k1, k2, k3, k4, k5⟩ := put6_t6 R7.out (.slice t.w.a t.w.n t.w.c) (.slice t.p.a t.p.n t.p.c) (.slice (t.u 0).a (t.u 0).n (t.u 0).c) (.slice (t.u 1).a (t.u 1).n (t.u 1).c) (.slice (t.u 2).a (t.u 2).n (t.u 2).c) (.slice t.c.a t.c.n t.c.c)
  exact res_black rfl rfl k0 k1 k2 k3 k4 k5
theorem black_any (hp : Hp w w.heap.size s d) (hk : WRow w w.heap.size k xs) (hz : Cl.Sz w) (hf : Fine s d) : Calls Tryd.prog 19 #[(.agg #[.slice s.w.a s.w.n s.w.c, .slice s.p.a s.p.n s.p.c, .slice (s.u 0).a (s.u 0).n (s.u 0).c, .slice (s.u 1).a (s.u 1).n (s.u 1).c, .slice (s.u 2).a (s.u 2).n (s.u 2).c, .slice s.c.a s.c.n s.c.c]), (.agg #[.int .i64 k.ph, .int .i64 k.ep, .bool k.mj, .slice k.wk.a k.wk.n k.wk.c, .bool k.ov, .int .i64 k.pa, .int .i64 k.pf, .int .i64 k.ps, .int .i64 k.pc, .bool k.me]), .int .i64 a] w (BlOut w s (blD s d k.mj k.ep a) (isC s d k.mj k.ep a 2)) := by
  have hF := fun (W : World) (h : Bw w W s d k xs) => find_any s d k xs a 2 W h.hp h.wr (hz.over h.bel hz.pos) hf
  unfold blD
  by_cases hc : isC s d k.mj k.ep a 2 = true
  · obtain ⟨h1, h2, h3⟩ := isC_iff.1 hc
    have ho := obj_of h2
    have hv : findV s d k.mj k.ep a 2 = headOf (wd d a) := if_pos hc
    rw [if_pos hc, hc]
    rw [hv, headOf_yes ho.word, decide_eq_true ho.odd, hc] at hF
    have p := ho.parts
    exact black_yes s d k xs a w _ _ _ _ _ _ hp hk hF fun W h => set_okn _ _ _ _ _ _ _ _ _ h.hp (hz.over h.bel hz.pos) hf h2 _ _ _ _ ho.val ho.may (ho.fits true p.2.2.2.2.1 p.2.2.2.2.2)
  · have hc' : isC s d k.mj k.ep a 2 = false := by simpa using hc
    obtain ⟨z0, z1, z2, z3, z4, z5, hv⟩ := find_form s d k.mj k.ep a 2
    rw [if_neg hc, hc']
    rw [hv, hc'] at hF
    exact black_no s d k xs a w _ _ _ _ _ _ hp hk hF fun W h => fresh_all s d W h.hp hf
theorem shade_any (hn : xs.length ≤ 1000000) (hp : Hp w w.heap.size s d) (hk : WRow w w.heap.size k xs) (hz : Cl.Sz w) (hf : Fine s d) : Calls Tryd.prog 10 #[(.agg #[.slice s.w.a s.w.n s.w.c, .slice s.p.a s.p.n s.p.c, .slice (s.u 0).a (s.u 0).n (s.u 0).c, .slice (s.u 1).a (s.u 1).n (s.u 1).c, .slice (s.u 2).a (s.u 2).n (s.u 2).c, .slice s.c.a s.c.n s.c.c]), (.agg #[.int .i64 k.ph, .int .i64 k.ep, .bool k.mj, .slice k.wk.a k.wk.n k.wk.c, .bool k.ov, .int .i64 k.pa, .int .i64 k.pf, .int .i64 k.ps, .int .i64 k.pc, .bool k.me]), .int .i64 a] w (ShOut w s k (shD s d k.mj k.ep a) (shO (isC s d k.mj k.ep a 1) xs k.ov) (shX (isC s d k.mj k.ep a 1) xs a)) := by
  have hF := fun (W : World) (h : Sw w W s d k xs) => find_any s d k xs a 1 W h.hp h.wr (hz.over h.bel hz.pos) hf
  unfold shD
  by_cases hc : isC s d k.mj k.ep a 1 = true
  · obtain ⟨h1, h2, h3⟩ := isC_iff.1 hc
    have ho := obj_of h2
    have hv : findV s d k.mj k.ep a 1 = headOf (wd d a) := if_pos hc
    rw [if_pos hc, hc]
    rw [hv, headOf_yes ho.word, decide_eq_true ho.odd, hc] at hF
    exact shade_yes s d k xs a w _ _ _ _ _ _ _ _ rfl rfl hn hp hk hF fun W h => set_okn _ _ _ _ _ _ _ _ _ h.hp (hz.over h.bel hz.pos) hf h2 _ _ _ _ ho.val ho.may (ho.fits false h1.1 h1.2)
  · have hc' : isC s d k.mj k.ep a 1 = false := by simpa using hc
    obtain ⟨z0, z1, z2, z3, z4, z5, hv⟩ := find_form s d k.mj k.ep a 1
    rw [if_neg hc, hc', show shO false xs k.ov = k.ov by simp [shO], show shX false xs a = xs from if_neg (by simp)]
    rw [hv, hc'] at hF
    exact shade_no s d k xs a w _ _ _ _ _ _ hn hp hk hF fun W h => fresh_all s d W h.hp hf
end
end Go.Proofs.YtdmclfolooiccaaDoor.Sh
end
section
namespace Go.Proofs.YtdmclfolooiccaaDoor.Ls
open Go.Proofs.YtdmclfolooiccaaDoor
set_option maxRecDepth 100000
open Go.RowKit

theorem ints_other {xs ys : List Int} {k : Nat} (h : ¬ xs.getD k 0 = ys.getD k 0) : decide (xs = ys) = false := by
  simp only [decide_eq_false_iff_not]
  rintro rfl
  exact h rfl
theorem ints_all {xs ys : List Int} {n : Nat} (h1 : xs.length = n) (h2 : ys.length = n) (h : ∀ j, j < n → xs.getD j 0 = ys.getD j 0) : decide (xs = ys) = true := by
  simp only [decide_eq_true_eq]
  apply List.ext_getElem (by omega)
  intro i hi hj
  have := h i (by omega)
  simpa [List.getD, hi, hj] using this
theorem ints_any (B C : Nat) (A A' : Option Addr) (n m c c' : Nat) (xs ys : List Int) (w : World) (hn : n ≤ 4000000) (hm : m ≤ 4000000) (hr : Row w B A n xs) (hs : Row w C A' m ys) :
    Calls Tryd.prog 17 #[.slice A n c, .slice A' m c'] w fun e w' => e = .returned (.bool (decide (xs = ys))) ∧ ∃ d, w' = w.drewN d := by
  by_cases hnm : n = m
  · subst hnm
    have HR := Lib.hid hr
    have HS := Lib.hid hs
    clear hr hs
    go_enter Tryd.func17, Tryd.ntmps17
    go_wp2
    go_loopw [5] (fun i wr => ∃ k d : Nat, k ≤ n ∧ i = .int .i64 k ∧ wr = w.drewN d ∧ Hid (∀ j, j < k → xs.getD j 0 = ys.getD j 0)) (fun i _ => n - (intOf i).toNat)
    case atStart => exact ⟨0, 0, Nat.zero_le _, rfl, rfl, Lib.hid fun j h => absurd h (by omega)⟩
    case round =>
      obtain ⟨k, d, hk, rfl, rfl, HE⟩ := hrel
      by_cases hlt : k < n
      · obtain ⟨b, off, rfl, _, hc⟩ := HR.out.2 (by omega)
        obtain ⟨b', off', rfl, _, hc'⟩ := HS.out.2 (by omega)
        have h1 := hc k hlt
        have h2 := hc' k hlt
        clear hc hc'
        by_cases he : xs.getD k 0 = ys.getD k 0
        · have HE2 : Hid (∀ j, j < k + 1 → xs.getD j 0 = ys.getD j 0) := Lib.hid fun j hj => by
            by_cases e : j = k
            · rw [e]; exact he
            · exact HE.out j (by omega)
          rw [← he] at h2
          clear he HE
          go_wp2
          go_quiet (fail)
          go_wp2
          go_roundw
          case rel => exact ⟨k + 1, _, by omega, by go_num, rfl, HE2⟩
          case measure => simp [intOf]; omega
        · have HO := Lib.hid (ints_other he)
          obtain ⟨x, hx⟩ : ∃ x, x = xs.getD k 0 := ⟨_, rfl⟩
          obtain ⟨y, hy⟩ : ∃ y, y = ys.getD k 0 := ⟨_, rfl⟩
          rw [← hx, ← hy] at he
          rw [← hx] at h1
          rw [← hy] at h2
          have hd : (x != y) = true := by simpa using he
          clear he hx hy HE
          go_wp2
          go_quiet (fail)
          go_wp2
          go_ret
          exact ⟨rint HO.out.symm, _, World.drewN_drewN _ _ _⟩
      · obtain rfl : k = n := by omega
        have HO := Lib.hid (ints_all HR.out.1 HS.out.1 HE.out)
        clear HE
        go_wp2
        go_ret
        exact ⟨rint HO.out.symm, _, rfl⟩
  · have hd : ((n : Int) != m) = true := by simp; omega
    have HO : Hid (decide (xs = ys) = false) := Lib.hid (by
      simp only [decide_eq_false_iff_not]
      rintro rfl
      exact hnm (hr.1.symm.trans hs.1))
    clear hr hs hnm
    go_enter Tryd.func17, Tryd.ntmps17
    go_wp2
    go_ret
    exact ⟨rint HO.out.symm, 0, rfl⟩
theorem ints_tell (B C : Nat) (A A' : Option Addr) (n m c c' : Nat) (xs ys : List Int) (w : World) (hn : n ≤ 4000000) (hm : m ≤ 4000000) (hr : Row w B A n xs) (hs : Row w C A' m ys) :
    Calls Tryd.prog 17 #[.slice A n c, .slice A' m c'] w (Tells w (decide (xs = ys))) :=
  (ints_any B C A A' n m c c' xs ys w hn hm hr hs).mono fun _ _ ⟨he, d, hd⟩ => ⟨he, by rw [hd]; exact below_drewN (Below.refl _ _) _⟩

theorem below_row_drewN {w : World} {B n : Nat} {a : Option Addr} {xs : List Int} (h : Row w B a n xs) (d : Nat) : Row (w.drewN d) B a n xs := h
/-- Whether two are the same. -/
def sameUp (f g : Nat → List Int) (k : Nat) : Prop := ∀ j, j < k → f j = g j
theorem sameUp_next {f g : Nat → List Int} {k : Nat} (h : sameUp f g k) (hk : f k = g k) : sameUp f g (k + 1) := fun j hj => by
  by_cases e : j = k
  · rw [e]; exact hk
  · exact h j (by omega)
instance (f g : Nat → List Int) (k : Nat) : Decidable (sameUp f g k) := inferInstanceAs (Decidable (∀ j, j < k → f j = g j))

set_option maxHeartbeats 1000000 in
theorem same_any (B C : Nat) (u v : Nat → Sl) (f g : Nat → List Int) (w : World) (hu : L3 w B u f) (hB : B ≤ w.heap.size) (hv : L3 w C v g) (hC : C ≤ w.heap.size) (hn : ∀ j, j < 3 → (u j).n ≤ 4000000) (hm : ∀ j, j < 3 → (v j).n ≤ 4000000) :
    Calls Tryd.prog 33 #[(.agg #[.slice (u 0).a (u 0).n (u 0).c, .slice (u 1).a (u 1).n (u 1).c, .slice (u 2).a (u 2).n (u 2).c]), (.agg #[.slice (v 0).a (v 0).n (v 0).c, .slice (v 1).a (v 1).n (v 1).c, .slice (v 2).a (v 2).n (v 2).c])] w (Tells w (decide (sameUp f g 3))) := by
  have HU := Lib.hid hu
  have HV := Lib.hid hv
  have HN := Lib.hid hn
  have HM := Lib.hid hm
  clear hu hv hn hm
  go_enter Tryd.func33, Tryd.ntmps33
  go_wp2
  have bb := two_below w (.cells #[.slice (u 0).a (u 0).n (u 0).c, .slice (u 1).a (u 1).n (u 1).c, .slice (u 2).a (u 2).n (u 2).c] 25) (.cells #[.slice (v 0).a (v 0).n (v 0).c, .slice (v 1).a (v 1).n (v 1).c, .slice (v 2).a (v 2).n (v 2).c] 25)
  have X := Lib.hid ((Box3.new w u 25).alloc (.cells #[.slice (v 0).a (v 0).n (v 0).c, .slice (v 1).a (v 1).n (v 1).c, .slice (v 2).a (v 2).n (v 2).c] 25))
  have Y := Lib.hid (Box3.new (w.alloc (.cells #[.slice (u 0).a (u 0).n (u 0).c, .slice (u 1).a (u 1).n (u 1).c, .slice (u 2).a (u 2).n (u 2).c] 25)) v 25)
  have LU := Lib.hid (HU.out.over bb hB)
  have LV := Lib.hid (HV.out.over bb hC)
  rw [World.size_alloc] at Y
  obtain ⟨w1, hw1⟩ : ∃ w1, w1 = (w.alloc (.cells #[.slice (u 0).a (u 0).n (u 0).c, .slice (u 1).a (u 1).n (u 1).c, .slice (u 2).a (u 2).n (u 2).c] 25)).alloc (.cells #[.slice (v 0).a (v 0).n (v 0).c, .slice (v 1).a (v 1).n (v 1).c, .slice (v 2).a (v 2).n (v 2).c] 25) := ⟨_, rfl⟩
  rw [← hw1] at X Y LU LV bb ⊢
  have BB := Lib.hid bb
  have hx := X.out.lt
  have hy := Y.out.lt
  clear hw1 bb HU HV
  go_loopw [5] (fun i wr => ∃ k : Nat, k ≤ 3 ∧ i = .int .i64 k ∧ Hid ((∃ d, wr = w1.drewN d) ∧ sameUp f g k)) (fun i _ => 3 - (intOf i).toNat)
  case atStart => exact ⟨0, Nat.zero_le _, rfl, Lib.hid ⟨⟨0, rfl⟩, fun j h => absurd h (by omega)⟩⟩
  case round =>
    obtain ⟨k, hk, rfl, HE⟩ := hrel
    obtain ⟨d, hd⟩ := HE.out.1
    by_cases hlt : k < 3
    · have cx := (X.out.drewN d).cell k hlt
      have cy := (Y.out.drewN d).cell k hlt
      have LU2 := Lib.hid ((LU.out.drewN d) k hlt).1
      have LV2 := Lib.hid ((LV.out.drewN d) k hlt).1
      have hx2 := (X.out.drewN d).lt
      have hy2 := (Y.out.drewN d).lt
      rw [← hd] at cx cy LU2 LV2 hx2 hy2
      replace hd := Lib.hid hd
      by_cases he : f k = g k
      · have HS := Lib.hid (sameUp_next HE.out.2 he)
        have hdec : decide (f k = g k) = true := by simpa using he
        have HI := Lib.hid (fun n : Nat => by
          have := ints_any B C (u k).a (v k).a (u k).n (v k).n (u k).c (v k).c (f k) (g k) (wr.drewN n) (HN.out k hlt) (HM.out k hlt) (below_row_drewN LU2.out n) (below_row_drewN LV2.out n)
          rw [hdec] at this
          exact this)
        clear he hdec
        go_wp2
        go_quiet ((go_at_call 17; exact Calls.quiet_of (HI.out _)))
        go_wp2
        go_roundw
        case rel => exact ⟨k + 1, by omega, by go_num, Lib.hid ⟨⟨_, by rw [hd.out]; exact World.drewN_drewN _ _ _⟩, HS.out⟩⟩
        case measure => simp [intOf]; omega
      · have hdec : decide (f k = g k) = false := by simpa using he
        have HO : Hid (decide (sameUp f g 3) = false) := Lib.hid (by
          simp only [decide_eq_false_iff_not]
          intro h
          exact he (h k hlt))
        have HI := Lib.hid (fun n : Nat => by
          have := ints_any B C (u k).a (v k).a (u k).n (v k).n (u k).c (v k).c (f k) (g k) (wr.drewN n) (HN.out k hlt) (HM.out k hlt) (below_row_drewN LU2.out n) (below_row_drewN LV2.out n)
          rw [hdec] at this
          exact this)
        clear he hdec
        go_wp2
        go_quiet ((go_at_call 17; exact Calls.quiet_of (HI.out _)))
        go_wp2
        go_ret
        exact ⟨rint HO.out.symm, by rw [hd.out]; exact below_drewN (below_drewN BB.out _) _⟩
    · obtain rfl : k = 3 := by omega
      have HO : Hid (decide (sameUp f g 3) = true) := Lib.hid (by simpa using HE.out.2)
      replace hd := Lib.hid hd
      go_wp2
      go_ret
      exact ⟨rint HO.out.symm, by rw [hd.out]; exact below_drewN BB.out _⟩
end Go.Proofs.YtdmclfolooiccaaDoor.Ls
end
section
namespace Go.Proofs.YtdmclfolooiccaaDoor.Sh
open Go.Proofs.YtdmclfolooiccaaDoor
open Go.RowKit
set_option maxRecDepth 100000

theorem row_of {base : Nat} {W : World} {v : Ls.Sl} {xs : List Int} (ho : W.ownsRow base 3 1 (.slice v.a v.n v.c) v.n (xs.map (Value.int .i64))) : Row W W.heap.size v.a v.n xs := by
  obtain ⟨a, c, e, hr, _, _⟩ := Ls.owns_row ho
  simp only [Value.slice.injEq, true_and] at e
  obtain ⟨rfl, rfl⟩ := e
  exact hr
theorem own_step {W W' : World} {base n : Nat} {v : Value} {xs : List Value} (h : W.ownsRow base 3 1 v n xs) (hb : Below W.heap.size W W') : W'.ownsRow base 3 1 v n xs :=
  Ls.World.ownsRow.same h fun g hg _ => hb.block g (h.lt g hg).2
theorem all_step {w W W' : World} {t : Ls.Sl} {xs : List Int} (h : Ls.Alling w W t xs) (hb : Below W.heap.size W W') : Ls.Alling w W' t xs := ⟨own_step h.own hb, h.bel.trans (hb.mono h.bel.size)⟩
theorem take_yes {p : Int → Bool} {xs : List Int} {q : Nat} (h : q < xs.length) (hp : p (xs.getD q 0) = true) : (xs.take (q + 1)).filter p = (xs.take q).filter p ++ [xs.getD q 0] := by
  have g : xs.getD q 0 = xs[q] := by simp [List.getD, h]
  rw [g] at hp ⊢
  rw [List.take_succ_eq_append_getElem h, List.filter_append]
  simp [hp]
theorem take_no {p : Int → Bool} {xs : List Int} {q : Nat} (h : q < xs.length) (hp : p (xs.getD q 0) = false) : (xs.take (q + 1)).filter p = (xs.take q).filter p := by
  have g : xs.getD q 0 = xs[q] := by simp [List.getD, h]
  rw [g] at hp
  rw [List.take_succ_eq_append_getElem h, List.filter_append]
  simp [hp]
section
variable (s : Hs) (d : Hd_) (k : Ks) (xs : List Int) (w : World)
set_option maxHeartbeats 2000000 in
theorem grey_core (us : List Int) (g : Int → Bool) (hul : us.length ≤ 512) (hp : Hp w w.heap.size s d) (hk : WRow w w.heap.size k xs)
    (hU : ∀ W, Lk w W [(w.heap.size, s, d)] [(w.heap.size + 1, k, xs)] → Calls Tryd.prog 15 #[(.agg #[.slice s.w.a s.w.n s.w.c, .slice s.p.a s.p.n s.p.c, .slice (s.u 0).a (s.u 0).n (s.u 0).c, .slice (s.u 1).a (s.u 1).n (s.u 1).c, .slice (s.u 2).a (s.u 2).n (s.u 2).c, .slice s.c.a s.c.n s.c.c])] W (Ls.AllOut W us))
    (hF : ∀ y, ∃ (u o e : Bool) (n b m : Int), ∀ W, Lk w W [(w.heap.size, s, d)] [(w.heap.size + 1, k, xs)] → Calls Tryd.prog 29 #[(.agg #[.slice s.w.a s.w.n s.w.c, .slice s.p.a s.p.n s.p.c, .slice (s.u 0).a (s.u 0).n (s.u 0).c, .slice (s.u 1).a (s.u 1).n (s.u 1).c, .slice (s.u 2).a (s.u 2).n (s.u 2).c, .slice s.c.a s.c.n s.c.c]), (.agg #[.int .i64 k.ph, .int .i64 k.ep, .bool k.mj, .slice k.wk.a k.wk.n k.wk.c, .bool k.ov, .int .i64 k.pa, .int .i64 k.pf, .int .i64 k.ps, .int .i64 k.pc, .bool k.me]), .int .i64 y, .int .i64 2] W (FindOut W (.agg #[.bool u, .bool o, .bool e, .int .i64 n, .int .i64 b, .int .i64 m]) (g y))) :
    Calls Tryd.prog 16 #[(.agg #[.slice s.w.a s.w.n s.w.c, .slice s.p.a s.p.n s.p.c, .slice (s.u 0).a (s.u 0).n (s.u 0).c, .slice (s.u 1).a (s.u 1).n (s.u 1).c, .slice (s.u 2).a (s.u 2).n (s.u 2).c, .slice s.c.a s.c.n s.c.c]), (.agg #[.int .i64 k.ph, .int .i64 k.ep, .bool k.mj, .slice k.wk.a k.wk.n k.wk.c, .bool k.ov, .int .i64 k.pa, .int .i64 k.pf, .int .i64 k.ps, .int .i64 k.pc, .bool k.me])] w (Ls.AllOut w (us.filter g)) := by
  have HP := Lib.hid hp
  have HK := Lib.hid hk
  have HU := Lib.hid hU
  have HF := Lib.hid hF
  obtain ⟨n, hn⟩ : ∃ n, us.length = n := ⟨_, rfl⟩
  rw [hn] at hul
  have HN := Lib.hid hn
  clear hp hk hU hF hn
  go_enter Tryd.func16, Tryd.ntmps16
  go_upto_region 2 with fail
  obtain ⟨W0, hW0⟩ : ∃ W0, W0 = (w.alloc (.cells #[.slice s.w.a s.w.n s.w.c, .slice s.p.a s.p.n s.p.c, .slice (s.u 0).a (s.u 0).n (s.u 0).c, .slice (s.u 1).a (s.u 1).n (s.u 1).c, .slice (s.u 2).a (s.u 2).n (s.u 2).c, .slice s.c.a s.c.n s.c.c] 28)).alloc (.cells #[.int .i64 k.ph, .int .i64 k.ep, .bool k.mj, .slice k.wk.a k.wk.n k.wk.c, .bool k.ov, .int .i64 k.pa, .int .i64 k.pf, .int .i64 k.ps, .int .i64 k.pc, .bool k.me] 30) := ⟨_, rfl⟩
  have K0 := Lib.hid (lk_start HP.out HK.out hW0)
  rw [← hW0]
  clear hW0
  have q0 := (K0.out.at (w.heap.size) s d (by simp)).c0
  have q1 := (K0.out.at (w.heap.size) s d (by simp)).c1
  have q2 := (K0.out.at (w.heap.size) s d (by simp)).c2
  have q3 := (K0.out.at (w.heap.size) s d (by simp)).c3
  have q4 := (K0.out.at (w.heap.size) s d (by simp)).c4
  have q5 := (K0.out.at (w.heap.size) s d (by simp)).c5
  have ql := (K0.out.at (w.heap.size) s d (by simp)).lt
  go_wp2_with fail
  refine (HU.out W0 K0.out).mono ?_
  rintro e9 w2 ⟨⟨va, vn, vc⟩, rfl, ho, hb2⟩
  have K2 := Lib.hid (K0.out.next hb2)
  obtain rfl : vn = n := by have h1 := ho.1; have h2 := HN.out; simp only [List.length_map] at h1; omega
  have R2 := Lib.hid (row_of ho)
  clear hb2 ho K0 HU
  clear q0 q1 q2 q3 q4 q5 ql
  go_wp2
  go_loopw [5, 13] (fun o i wr => ∃ (t : Ls.Sl) (q : Nat), q ≤ vn ∧ o = .slice t.a t.n t.c ∧ i = .int .i64 q ∧ Hid (Ls.Alling w2 wr t ((us.take q).filter g))) (fun _ i _ => vn - (intOf i).toNat)
  case atStart => exact ⟨⟨none, 0, 0⟩, 0, by omega, rfl, rfl, Lib.hid ⟨World.ownsRow_nil _ _ _ _, Below.refl _ _⟩⟩
  case round =>
    obtain ⟨t, q, hq, rfl, rfl, HA⟩ := hrel
    have LA := Lib.hid (K2.out.next HA.out.bel)
    by_cases hlt : q < vn
    · have HQ : Hid (q < us.length) := Lib.hid (by have := HN.out; omega)
      have hR := Row.below R2.out HA.out.bel
      obtain ⟨b, off, rfl, hbl', hcell⟩ := hR.2 (by omega)
      have hq1 := hcell q hlt
      have hbl : b < wr.heap.size := by have := HA.out.bel.size; omega
      obtain ⟨y, hy⟩ : ∃ y, y = us.getD q 0 := ⟨_, rfl⟩
      rw [← hy] at hq1
      have HY := Lib.hid hy
      have htn : t.n + 1 ≤ 4000000 := by
        have h1 := HA.out.len
        have h2 : ((us.take q).filter g).length ≤ (us.take q).length := List.length_filter_le _ _
        rw [List.length_take] at h2
        omega
      obtain ⟨u, o, e, n, m0, m, hf⟩ := HF.out y
      obtain ⟨gy, hg⟩ : ∃ gy, gy = g y := ⟨_, rfl⟩
      rw [← hg] at hf
      clear hcell hy hbl' hR
      have x0 := (LA.out.at (w.heap.size) s d (by simp)).c0
      have x1 := (LA.out.at (w.heap.size) s d (by simp)).c1
      have x2 := (LA.out.at (w.heap.size) s d (by simp)).c2
      have x3 := (LA.out.at (w.heap.size) s d (by simp)).c3
      have x4 := (LA.out.at (w.heap.size) s d (by simp)).c4
      have x5 := (LA.out.at (w.heap.size) s d (by simp)).c5
      have xl := (LA.out.at (w.heap.size) s d (by simp)).lt
      have p0 := (LA.out.cat (w.heap.size + 1) k xs (by simp)).c0
      have p1 := (LA.out.cat (w.heap.size + 1) k xs (by simp)).c1
      have p2 := (LA.out.cat (w.heap.size + 1) k xs (by simp)).c2
      have p3 := (LA.out.cat (w.heap.size + 1) k xs (by simp)).c3
      have p4 := (LA.out.cat (w.heap.size + 1) k xs (by simp)).c4
      have p5 := (LA.out.cat (w.heap.size + 1) k xs (by simp)).c5
      have p6 := (LA.out.cat (w.heap.size + 1) k xs (by simp)).c6
      have p7 := (LA.out.cat (w.heap.size + 1) k xs (by simp)).c7
      have p8 := (LA.out.cat (w.heap.size + 1) k xs (by simp)).c8
      have p9 := (LA.out.cat (w.heap.size + 1) k xs (by simp)).c9
      have pl := (LA.out.cat (w.heap.size + 1) k xs (by simp)).lt
      cases gy
      · have HT := Lib.hid (take_no (p := g) HQ.out (by rw [← HY.out]; exact hg.symm))
        have FX := Lib.hid hf
        clear hf hg
        go_wp2_with fail
        refine (FX.out wr LA.out).mono ?_
        rintro e9 w5 ⟨rfl, hb5⟩
        have HB := Lib.hid (all_step HA.out (hb5.alloc hb5.size (.cells #[.bool u, .bool o, .bool e, .int .i64 n, .int .i64 m0, .int .i64 m] 43)))
        rw [← HT.out] at HB
        clear hb5 FX
        clear x0 x1 x2 x3 x4 x5 xl
        clear p0 p1 p2 p3 p4 p5 p6 p7 p8 p9 pl
        go_wp2
        go_roundw
        case rel => exact ⟨t, q + 1, by omega, rfl, by go_num, HB⟩
        case measure => simp [intOf]; omega
      · have HT := Lib.hid (take_yes (p := g) HQ.out (by rw [← HY.out]; exact hg.symm))
        rw [← HY.out] at HT
        have FX := Lib.hid hf
        clear hf hg
        go_wp2_with fail
        refine (FX.out wr LA.out).mono ?_
        rintro e9 w5 ⟨rfl, hb5⟩
        have HB := Lib.hid (all_step HA.out (hb5.alloc hb5.size (.cells #[.bool u, .bool o, .bool e, .int .i64 n, .int .i64 m0, .int .i64 m] 43)))
        clear hb5 FX
        clear x0 x1 x2 x3 x4 x5 xl
        clear p0 p1 p2 p3 p4 p5 p6 p7 p8 p9 pl
        go_upto_region 7 with fail
        generalize w5.alloc (.cells #[.bool u, .bool o, .bool e, .int .i64 n, .int .i64 m0, .int .i64 m] 43) = w4 at HB ⊢
        go_wp2_with (at_builtin; refine Ls.list_cat rfl _ _ rfl rfl rfl (HB.out.alloc _).own (Ls.row_lit1 _ _) (HB.out.alloc _).bel.size htn ?_)
        intro p' cp' w6 hcat
        have hA6 := (HB.out.alloc _).cat hcat
        rw [← HT.out] at hA6
        have H6 := Lib.hid hA6
        clear hcat hA6
        go_wp2
        go_roundw
        case rel => exact ⟨⟨p', t.n + 1, cp'⟩, q + 1, by omega, rfl, by go_num, H6⟩
        case measure => simp [intOf]; omega
    · obtain rfl : q = vn := by omega
      have HE := Lib.hid (And.intro (own_less' HA.out.own K2.out.bel.size) LA.out.bel)
      have e : us.take q = us := List.take_of_length_le (by have := HN.out; omega)
      rw [e] at HE
      clear e
      go_wp2
      go_ret
      exact ⟨t, rfl, HE.out.1, HE.out.2⟩
theorem grey_any (hp : Hp w w.heap.size s d) (hk : WRow w w.heap.size k xs) (hz : Cl.Sz w) (hf : Fine s d) : Calls Tryd.prog 16 #[(.agg #[.slice s.w.a s.w.n s.w.c, .slice s.p.a s.p.n s.p.c, .slice (s.u 0).a (s.u 0).n (s.u 0).c, .slice (s.u 1).a (s.u 1).n (s.u 1).c, .slice (s.u 2).a (s.u 2).n (s.u 2).c, .slice s.c.a s.c.n s.c.c]), (.agg #[.int .i64 k.ph, .int .i64 k.ep, .bool k.mj, .slice k.wk.a k.wk.n k.wk.c, .bool k.ov, .int .i64 k.pa, .int .i64 k.pf, .int .i64 k.ps, .int .i64 k.pc, .bool k.me])] w (Ls.AllOut w (greyL s d k.mj k.ep)) := by
  refine grey_core s d k xs w (usedL s d) (fun y => isC s d k.mj k.ep y 2) (Nat.le_trans (used_len s d) (allS_len d.f s.p.n)) hp hk (fun W h => pused_any s d W (h.hp w.heap.size s d (by simp)) (hz.over h.bel hz.pos) hf) fun y => ?_
  obtain ⟨z0, z1, z2, z3, z4, z5, hv⟩ := find_form s d k.mj k.ep y 2
  refine ⟨z0, z1, z2, z3, z4, z5, fun W h => ?_⟩
  have := find_any s d k xs y 2 W (h.hp w.heap.size s d (by simp)) (h.wr (w.heap.size + 1) k xs (by simp)) (hz.over h.bel hz.pos) hf
  rwa [hv] at this
end
/-- A heap, and a work list, that are not too great. -/
def fewK (s : Hs) (k : Ks) : Bool := fewH s && decide (k.wk.n ≤ 100)
theorem few_any (s : Hs) (k : Ks) (w : World) : Calls Tryd.prog 8 #[(.agg #[.slice s.w.a s.w.n s.w.c, .slice s.p.a s.p.n s.p.c, .slice (s.u 0).a (s.u 0).n (s.u 0).c, .slice (s.u 1).a (s.u 1).n (s.u 1).c, .slice (s.u 2).a (s.u 2).n (s.u 2).c, .slice s.c.a s.c.n s.c.c]), (.agg #[.int .i64 k.ph, .int .i64 k.ep, .bool k.mj, .slice k.wk.a k.wk.n k.wk.c, .bool k.ov, .int .i64 k.pa, .int .i64 k.pf, .int .i64 k.ps, .int .i64 k.pc, .bool k.me])] w fun e w' => e = .returned (.bool (fewK s k)) ∧ Below w.heap.size w w' := by
  have hb := two_allocs (w := w) (.cells #[.slice s.w.a s.w.n s.w.c, .slice s.p.a s.p.n s.p.c, .slice (s.u 0).a (s.u 0).n (s.u 0).c, .slice (s.u 1).a (s.u 1).n (s.u 1).c, .slice (s.u 2).a (s.u 2).n (s.u 2).c, .slice s.c.a s.c.n s.c.c] 28) (.cells #[.int .i64 k.ph, .int .i64 k.ep, .bool k.mj, .slice k.wk.a k.wk.n k.wk.c, .bool k.ov, .int .i64 k.pa, .int .i64 k.pf, .int .i64 k.ps, .int .i64 k.pc, .bool k.me] 30)
  have cb : CBox ((w.alloc (.cells #[.slice s.w.a s.w.n s.w.c, .slice s.p.a s.p.n s.p.c, .slice (s.u 0).a (s.u 0).n (s.u 0).c, .slice (s.u 1).a (s.u 1).n (s.u 1).c, .slice (s.u 2).a (s.u 2).n (s.u 2).c, .slice s.c.a s.c.n s.c.c] 28)).alloc (.cells #[.int .i64 k.ph, .int .i64 k.ep, .bool k.mj, .slice k.wk.a k.wk.n k.wk.c, .bool k.ov, .int .i64 k.pa, .int .i64 k.pf, .int .i64 k.ps, .int .i64 k.pc, .bool k.me] 30)) (w.heap.size + 1) k := by
    have := CBox.new (w.alloc (.cells #[.slice s.w.a s.w.n s.w.c, .slice s.p.a s.p.n s.p.c, .slice (s.u 0).a (s.u 0).n (s.u 0).c, .slice (s.u 1).a (s.u 1).n (s.u 1).c, .slice (s.u 2).a (s.u 2).n (s.u 2).c, .slice s.c.a s.c.n s.c.c] 28)) k 30
    rwa [World.size_alloc] at this
  have HB := Lib.hid hb
  have CB := Lib.hid cb
  clear hb cb
  cases hf : fewH s
  · have HF := Lib.hid hf
    rw [show fewK s k = false by unfold fewK; rw [hf]; rfl]
    clear hf
    go_enter Tryd.func8, Tryd.ntmps8
    go_wp2_with fail
    refine (rfew_any s _).mono ?_
    rw [HF.out]
    rintro e w1 ⟨rfl, hb1⟩
    have HE := Lib.hid (HB.out.trans (hb1.mono HB.out.size))
    clear hb1
    go_wp2
    go_ret
    exact ⟨rfl, HE.out⟩
  · have HF := Lib.hid hf
    have hk2 : fewK s k = decide (k.wk.n ≤ 100) := by unfold fewK; rw [hf]; rfl
    have HK2 := Lib.hid hk2
    clear hf hk2
    go_enter Tryd.func8, Tryd.ntmps8
    go_wp2_with fail
    refine (rfew_any s _).mono ?_
    rw [HF.out]
    rintro e w1 ⟨rfl, hb1⟩
    have HE := Lib.hid (HB.out.trans (hb1.mono HB.out.size))
    have p3 := (CB.out.next hb1).c3
    have pl := (CB.out.next hb1).lt
    clear hb1
    by_cases h : k.wk.n ≤ 100
    · have h1 : decide ((k.wk.n : Int) ≤ 100) = true := decide_eq_true (by omega)
      have HD := Lib.hid (HK2.out.trans (decide_eq_true h))
      have h2 : decide (k.wk.n ≤ 100) = true := decide_eq_true h
      clear h
      go_wp2
      go_ret
      exact ⟨by rw [HD.out]; rfl, HE.out⟩
    · have h1 : decide ((k.wk.n : Int) ≤ 100) = false := decide_eq_false (by omega)
      have HD := Lib.hid (HK2.out.trans (decide_eq_false h))
      have h2 : decide (k.wk.n ≤ 100) = false := decide_eq_false h
      clear h
      go_wp2
      go_ret
      exact ⟨by rw [HD.out]; rfl, HE.out⟩
set_option maxHeartbeats 4000000 in
/-- Two collectors that hold the same. -/
theorem ksame_yes (k : Ks) (v v' : Ls.Sl) (o : Bool) (xs : List Int) (w : World) (hr : Row w w.heap.size v.a v.n xs) (hs : Row w w.heap.size v'.a v'.n xs) (hn : xs.length ≤ 1000000) : Calls Tryd.prog 14 #[(.agg #[.int .i64 k.ph, .int .i64 k.ep, .bool k.mj, .slice v.a v.n v.c, .bool o, .int .i64 k.pa, .int .i64 k.pf, .int .i64 k.ps, .int .i64 k.pc, .bool k.me]), (.agg #[.int .i64 k.ph, .int .i64 k.ep, .bool k.mj, .slice v'.a v'.n v'.c, .bool o, .int .i64 k.pa, .int .i64 k.pf, .int .i64 k.ps, .int .i64 k.pc, .bool k.me])] w fun e w' => e = .returned (.bool true) ∧ Below w.heap.size w w' := by
  have h1 : v.n ≤ 4000000 := by rw [← hr.1]; omega
  have h2 : v'.n ≤ 4000000 := by rw [← hs.1]; omega
  have HR := Lib.hid hr
  have HS := Lib.hid hs
  have B0 := Lib.hid (two_allocs (w := w) (.cells #[.int .i64 k.ph, .int .i64 k.ep, .bool k.mj, .slice v.a v.n v.c, .bool o, .int .i64 k.pa, .int .i64 k.pf, .int .i64 k.ps, .int .i64 k.pc, .bool k.me] 30) (.cells #[.int .i64 k.ph, .int .i64 k.ep, .bool k.mj, .slice v'.a v'.n v'.c, .bool o, .int .i64 k.pa, .int .i64 k.pf, .int .i64 k.ps, .int .i64 k.pc, .bool k.me] 30))
  have hc1 : CBox (w.alloc (.cells #[.int .i64 k.ph, .int .i64 k.ep, .bool k.mj, .slice v.a v.n v.c, .bool o, .int .i64 k.pa, .int .i64 k.pf, .int .i64 k.ps, .int .i64 k.pc, .bool k.me] 30)) w.heap.size ⟨k.ph, k.ep, k.mj, v, o, k.pa, k.pf, k.ps, k.pc, k.me⟩ := CBox.new w ⟨k.ph, k.ep, k.mj, v, o, k.pa, k.pf, k.ps, k.pc, k.me⟩ _
  have C1 := Lib.hid (hc1.next ((Below.refl _ _).alloc (Nat.le_refl _) (.cells #[.int .i64 k.ph, .int .i64 k.ep, .bool k.mj, .slice v'.a v'.n v'.c, .bool o, .int .i64 k.pa, .int .i64 k.pf, .int .i64 k.ps, .int .i64 k.pc, .bool k.me] 30)))
  have hc2 : CBox ((w.alloc (.cells #[.int .i64 k.ph, .int .i64 k.ep, .bool k.mj, .slice v.a v.n v.c, .bool o, .int .i64 k.pa, .int .i64 k.pf, .int .i64 k.ps, .int .i64 k.pc, .bool k.me] 30)).alloc (.cells #[.int .i64 k.ph, .int .i64 k.ep, .bool k.mj, .slice v'.a v'.n v'.c, .bool o, .int .i64 k.pa, .int .i64 k.pf, .int .i64 k.ps, .int .i64 k.pc, .bool k.me] 30)) (w.heap.size + 1) ⟨k.ph, k.ep, k.mj, v', o, k.pa, k.pf, k.ps, k.pc, k.me⟩ := by
    have := CBox.new (w.alloc (.cells #[.int .i64 k.ph, .int .i64 k.ep, .bool k.mj, .slice v.a v.n v.c, .bool o, .int .i64 k.pa, .int .i64 k.pf, .int .i64 k.ps, .int .i64 k.pc, .bool k.me] 30)) ⟨k.ph, k.ep, k.mj, v', o, k.pa, k.pf, k.ps, k.pc, k.me⟩ 30
    rwa [World.size_alloc] at this
  have C2 := Lib.hid hc2
  obtain ⟨ph, ep, mj, wk, ov, pa, pf, ps, pc, me⟩ := k
  clear hr hs hc1 hc2 hn
  go_enter Tryd.func14, Tryd.ntmps14
  go_wp2_with fail
  refine (Ls.ints_tell w.heap.size w.heap.size v.a v'.a v.n v'.n v.c v'.c xs xs _ h1 h2 (HR.out.below B0.out) (HS.out.below B0.out)).mono ?_
  rw [decide_eq_true rfl]
  rintro e w1 ⟨rfl, hb1⟩
  have HE := Lib.hid (B0.out.trans (hb1.mono B0.out.size))
  have D1 := Lib.hid (C1.out.next hb1)
  have D2 := Lib.hid (C2.out.next hb1)
  have e1 : (ph == ph) = true := beq_self_eq_true _
  have e2 : (ep == ep) = true := beq_self_eq_true _
  have e3 : (mj == mj) = true := beq_self_eq_true _
  have e4 : (o == o) = true := beq_self_eq_true _
  have e5 : (pa == pa) = true := beq_self_eq_true _
  have e6 : (pf == pf) = true := beq_self_eq_true _
  have e7 : (ps == ps) = true := beq_self_eq_true _
  have e8 : (pc == pc) = true := beq_self_eq_true _
  have e9 : (me == me) = true := beq_self_eq_true _
  have p0 := (D1.out).c0
  have p1 := (D1.out).c1
  have p2 := (D1.out).c2
  have p3 := (D1.out).c3
  have p4 := (D1.out).c4
  have p5 := (D1.out).c5
  have p6 := (D1.out).c6
  have p7 := (D1.out).c7
  have p8 := (D1.out).c8
  have p9 := (D1.out).c9
  have pl := (D1.out).lt
  have q0 := (D2.out).c0
  have q1 := (D2.out).c1
  have q2 := (D2.out).c2
  have q3 := (D2.out).c3
  have q4 := (D2.out).c4
  have q5 := (D2.out).c5
  have q6 := (D2.out).c6
  have q7 := (D2.out).c7
  have q8 := (D2.out).c8
  have q9 := (D2.out).c9
  have ql := (D2.out).lt
  dsimp only at p0 p1 p2 p3 p4 p5 p6 p7 p8 p9 q0 q1 q2 q3 q4 q5 q6 q7 q8 q9
  clear hb1
  go_wp2
  go_ret
  exact ⟨rfl, HE.out⟩
end Go.Proofs.YtdmclfolooiccaaDoor.Sh
end
section
namespace Go.Proofs.YtdmclfolooiccaaDoor.Sh
open Go.Proofs.YtdmclfolooiccaaDoor
open Go.RowKit
set_option maxRecDepth 100000

theorem take_mem1 {y : Int} {xs : List Int} {t : Nat} (h : t < xs.length) : decide (y ∈ xs.take (t + 1)) = (decide (y ∈ xs.take t) || (xs.getD t 0 == y)) := by
  have g : xs.getD t 0 = xs[t] := by simp [List.getD, h]
  rw [g, List.take_succ_eq_append_getElem h, Bool.eq_iff_iff, decide_eq_true_iff, Bool.or_eq_true, decide_eq_true_iff, beq_iff_eq, List.mem_append, List.mem_singleton]
  exact or_congr Iff.rfl eq_comm
section
variable (s : Hs) (d : Hd_) (k : Ks) (xs g : List Int) (w : World)
set_option maxHeartbeats 2000000 in
theorem listed_yes (ho : k.ov = true) (hgl : g.length ≤ 512) (hp : Hp w w.heap.size s d) (hk : WRow w w.heap.size k xs)
    (hG : ∀ W, Lk w W [(w.heap.size, s, d)] [(w.heap.size + 1, k, xs)] → Calls Tryd.prog 16 #[(.agg #[.slice s.w.a s.w.n s.w.c, .slice s.p.a s.p.n s.p.c, .slice (s.u 0).a (s.u 0).n (s.u 0).c, .slice (s.u 1).a (s.u 1).n (s.u 1).c, .slice (s.u 2).a (s.u 2).n (s.u 2).c, .slice s.c.a s.c.n s.c.c]), (.agg #[.int .i64 k.ph, .int .i64 k.ep, .bool k.mj, .slice k.wk.a k.wk.n k.wk.c, .bool k.ov, .int .i64 k.pa, .int .i64 k.pf, .int .i64 k.ps, .int .i64 k.pc, .bool k.me])] W (Ls.AllOut W g)) :
    Calls Tryd.prog 12 #[(.agg #[.slice s.w.a s.w.n s.w.c, .slice s.p.a s.p.n s.p.c, .slice (s.u 0).a (s.u 0).n (s.u 0).c, .slice (s.u 1).a (s.u 1).n (s.u 1).c, .slice (s.u 2).a (s.u 2).n (s.u 2).c, .slice s.c.a s.c.n s.c.c]), (.agg #[.int .i64 k.ph, .int .i64 k.ep, .bool k.mj, .slice k.wk.a k.wk.n k.wk.c, .bool k.ov, .int .i64 k.pa, .int .i64 k.pf, .int .i64 k.ps, .int .i64 k.pc, .bool k.me])] w fun e w' => e = .returned (.bool true) ∧ Below w.heap.size w w' := by
  have HP := Lib.hid hp
  have HK := Lib.hid hk
  have HG := Lib.hid hG
  have HO := Lib.hid ho
  obtain ⟨n, hn⟩ : ∃ n, g.length = n := ⟨_, rfl⟩
  have HN := Lib.hid hn
  rw [hn] at hgl
  clear hp hk hG ho hn
  go_enter Tryd.func12, Tryd.ntmps12
  go_upto_region 1 with fail
  obtain ⟨W0, hW0⟩ : ∃ W0, W0 = (w.alloc (.cells #[.slice s.w.a s.w.n s.w.c, .slice s.p.a s.p.n s.p.c, .slice (s.u 0).a (s.u 0).n (s.u 0).c, .slice (s.u 1).a (s.u 1).n (s.u 1).c, .slice (s.u 2).a (s.u 2).n (s.u 2).c, .slice s.c.a s.c.n s.c.c] 28)).alloc (.cells #[.int .i64 k.ph, .int .i64 k.ep, .bool k.mj, .slice k.wk.a k.wk.n k.wk.c, .bool k.ov, .int .i64 k.pa, .int .i64 k.pf, .int .i64 k.ps, .int .i64 k.pc, .bool k.me] 30) := ⟨_, rfl⟩
  have K0 := Lib.hid (lk_start HP.out HK.out hW0)
  rw [← hW0]
  clear hW0
  have q0 := (K0.out.at (w.heap.size) s d (by simp)).c0
  have q1 := (K0.out.at (w.heap.size) s d (by simp)).c1
  have q2 := (K0.out.at (w.heap.size) s d (by simp)).c2
  have q3 := (K0.out.at (w.heap.size) s d (by simp)).c3
  have q4 := (K0.out.at (w.heap.size) s d (by simp)).c4
  have q5 := (K0.out.at (w.heap.size) s d (by simp)).c5
  have ql := (K0.out.at (w.heap.size) s d (by simp)).lt
  have p0 := (K0.out.cat (w.heap.size + 1) k xs (by simp)).c0
  have p1 := (K0.out.cat (w.heap.size + 1) k xs (by simp)).c1
  have p2 := (K0.out.cat (w.heap.size + 1) k xs (by simp)).c2
  have p3 := (K0.out.cat (w.heap.size + 1) k xs (by simp)).c3
  have p4 := (K0.out.cat (w.heap.size + 1) k xs (by simp)).c4
  have p5 := (K0.out.cat (w.heap.size + 1) k xs (by simp)).c5
  have p6 := (K0.out.cat (w.heap.size + 1) k xs (by simp)).c6
  have p7 := (K0.out.cat (w.heap.size + 1) k xs (by simp)).c7
  have p8 := (K0.out.cat (w.heap.size + 1) k xs (by simp)).c8
  have p9 := (K0.out.cat (w.heap.size + 1) k xs (by simp)).c9
  have pl := (K0.out.cat (w.heap.size + 1) k xs (by simp)).lt
  go_wp2_with fail
  refine (HG.out W0 K0.out).mono ?_
  rintro e9 w2 ⟨⟨va, vn, vc⟩, rfl, hrow, hb2⟩
  have K2 := Lib.hid (K0.out.next hb2)
  obtain rfl : vn = n := by have h1 := hrow.1; have h2 := HN.out; simp only [List.length_map] at h1; omega
  clear hb2 hrow K0 HG
  clear q0 q1 q2 q3 q4 q5 ql
  clear p0 p1 p2 p3 p4 p5 p6 p7 p8 p9 pl
  have p4 := (K2.out.cat (w.heap.size + 1) k xs (by simp)).c4
  have pl := (K2.out.cat (w.heap.size + 1) k xs (by simp)).lt
  rw [HO.out] at p4
  obtain ⟨W2, hW2⟩ : ∃ W2, W2 = w2 := ⟨_, rfl⟩
  go_wp2
  go_loopw [6] (fun i wr => i = .int .i64 0 ∧ wr = w2) (fun _ _ => 0)
  case atStart => exact ⟨rfl, rfl⟩
  case round =>
    obtain ⟨rfl, rfl⟩ := hrel
    by_cases h0 : 0 < vn
    · have j1 : decide ((0 : Int) < vn) = true := decide_eq_true (by omega)
      have j2 : decide (0 < vn) = true := decide_eq_true h0
      go_wp2
      go_ret
      exact ⟨rfl, K2.out.bel⟩
    · have j1 : decide ((0 : Int) < vn) = false := decide_eq_false (by omega)
      have j2 : decide (0 < vn) = false := decide_eq_false h0
      go_wp2
      go_ret
      exact ⟨rfl, K2.out.bel⟩
set_option maxHeartbeats 4000000 in
theorem listed_no (R : Bool) (hR : R = g.all fun y => decide (y ∈ xs)) (ho : k.ov = false) (hgl : g.length ≤ 512) (hxl : xs.length ≤ 1000000) (hp : Hp w w.heap.size s d) (hk : WRow w w.heap.size k xs)
    (hG : ∀ W, Lk w W [(w.heap.size, s, d)] [(w.heap.size + 1, k, xs)] → Calls Tryd.prog 16 #[(.agg #[.slice s.w.a s.w.n s.w.c, .slice s.p.a s.p.n s.p.c, .slice (s.u 0).a (s.u 0).n (s.u 0).c, .slice (s.u 1).a (s.u 1).n (s.u 1).c, .slice (s.u 2).a (s.u 2).n (s.u 2).c, .slice s.c.a s.c.n s.c.c]), (.agg #[.int .i64 k.ph, .int .i64 k.ep, .bool k.mj, .slice k.wk.a k.wk.n k.wk.c, .bool k.ov, .int .i64 k.pa, .int .i64 k.pf, .int .i64 k.ps, .int .i64 k.pc, .bool k.me])] W (Ls.AllOut W g)) :
    Calls Tryd.prog 12 #[(.agg #[.slice s.w.a s.w.n s.w.c, .slice s.p.a s.p.n s.p.c, .slice (s.u 0).a (s.u 0).n (s.u 0).c, .slice (s.u 1).a (s.u 1).n (s.u 1).c, .slice (s.u 2).a (s.u 2).n (s.u 2).c, .slice s.c.a s.c.n s.c.c]), (.agg #[.int .i64 k.ph, .int .i64 k.ep, .bool k.mj, .slice k.wk.a k.wk.n k.wk.c, .bool k.ov, .int .i64 k.pa, .int .i64 k.pf, .int .i64 k.ps, .int .i64 k.pc, .bool k.me])] w fun e w' => e = .returned (.bool R) ∧ Below w.heap.size w w' := by
  have HP := Lib.hid hp
  have HK := Lib.hid hk
  have HG := Lib.hid hG
  have HO := Lib.hid ho
  have HR := Lib.hid hR
  have hkn := hk.len
  have HX := Lib.hid hkn
  have hxn : k.wk.n ≤ 1000000 := by omega
  obtain ⟨n, hn⟩ : ∃ n, g.length = n := ⟨_, rfl⟩
  have HN := Lib.hid hn
  rw [hn] at hgl
  clear hp hk hG ho hn hR hkn hxl
  go_enter Tryd.func12, Tryd.ntmps12
  go_upto_region 1 with fail
  obtain ⟨W0, hW0⟩ : ∃ W0, W0 = (w.alloc (.cells #[.slice s.w.a s.w.n s.w.c, .slice s.p.a s.p.n s.p.c, .slice (s.u 0).a (s.u 0).n (s.u 0).c, .slice (s.u 1).a (s.u 1).n (s.u 1).c, .slice (s.u 2).a (s.u 2).n (s.u 2).c, .slice s.c.a s.c.n s.c.c] 28)).alloc (.cells #[.int .i64 k.ph, .int .i64 k.ep, .bool k.mj, .slice k.wk.a k.wk.n k.wk.c, .bool k.ov, .int .i64 k.pa, .int .i64 k.pf, .int .i64 k.ps, .int .i64 k.pc, .bool k.me] 30) := ⟨_, rfl⟩
  have K0 := Lib.hid (lk_start HP.out HK.out hW0)
  rw [← hW0]
  clear hW0
  have q0 := (K0.out.at (w.heap.size) s d (by simp)).c0
  have q1 := (K0.out.at (w.heap.size) s d (by simp)).c1
  have q2 := (K0.out.at (w.heap.size) s d (by simp)).c2
  have q3 := (K0.out.at (w.heap.size) s d (by simp)).c3
  have q4 := (K0.out.at (w.heap.size) s d (by simp)).c4
  have q5 := (K0.out.at (w.heap.size) s d (by simp)).c5
  have ql := (K0.out.at (w.heap.size) s d (by simp)).lt
  have p0 := (K0.out.cat (w.heap.size + 1) k xs (by simp)).c0
  have p1 := (K0.out.cat (w.heap.size + 1) k xs (by simp)).c1
  have p2 := (K0.out.cat (w.heap.size + 1) k xs (by simp)).c2
  have p3 := (K0.out.cat (w.heap.size + 1) k xs (by simp)).c3
  have p4 := (K0.out.cat (w.heap.size + 1) k xs (by simp)).c4
  have p5 := (K0.out.cat (w.heap.size + 1) k xs (by simp)).c5
  have p6 := (K0.out.cat (w.heap.size + 1) k xs (by simp)).c6
  have p7 := (K0.out.cat (w.heap.size + 1) k xs (by simp)).c7
  have p8 := (K0.out.cat (w.heap.size + 1) k xs (by simp)).c8
  have p9 := (K0.out.cat (w.heap.size + 1) k xs (by simp)).c9
  have pl := (K0.out.cat (w.heap.size + 1) k xs (by simp)).lt
  go_wp2_with fail
  refine (HG.out W0 K0.out).mono ?_
  rintro e9 w2 ⟨⟨va, vn, vc⟩, rfl, hrow, hb2⟩
  have K2 := Lib.hid (K0.out.next hb2)
  obtain rfl : vn = n := by have h1 := hrow.1; have h2 := HN.out; simp only [List.length_map] at h1; omega
  have R2 := Lib.hid (row_of hrow)
  clear hb2 hrow K0 HG
  clear q0 q1 q2 q3 q4 q5 ql
  clear p0 p1 p2 p3 p4 p5 p6 p7 p8 p9 pl
  go_wp2
  go_loopw [6] (fun i wr => ∃ q : Nat, q ≤ vn ∧ i = .int .i64 q ∧ Hid (∀ j, j < q → decide (g.getD j 0 ∈ xs) = true) ∧ Hid (Below w2.heap.size w2 wr)) (fun i _ => vn - (intOf i).toNat)
  case atStart => exact ⟨0, Nat.zero_le _, rfl, Lib.hid (fun j h => absurd h (by omega)), Lib.hid (Below.refl _ _)⟩
  case round =>
    obtain ⟨q, hq, rfl, HM, HB⟩ := hrel
    have LA := Lib.hid (K2.out.next HB.out)
    have p3 := (LA.out.cat (w.heap.size + 1) k xs (by simp)).c3
    have p4 := (LA.out.cat (w.heap.size + 1) k xs (by simp)).c4
    have pl := (LA.out.cat (w.heap.size + 1) k xs (by simp)).lt
    rw [HO.out] at p4
    by_cases hlt : q < vn
    · obtain ⟨b, off, rfl, hbl', hcell⟩ := (Row.below R2.out HB.out).2 (by omega)
      have hq1 := hcell q hlt
      have hbl : b < wr.heap.size := by have := HB.out.size; omega
      obtain ⟨y, hy⟩ : ∃ y, y = g.getD q 0 := ⟨_, rfl⟩
      rw [← hy] at hq1
      have HY := Lib.hid hy
      have HQ5 := Lib.hid (And.intro hq1 hbl)
      have j0 : (0 : Int) ≤ q := by omega
      have j1 : (q : Int) < vn := by omega
      have jt : decide ((q : Int) < vn) = true := decide_eq_true j1
      have jn : decide (q < vn) = true := decide_eq_true hlt
      clear hcell hy hbl' hq1 hbl
      go_wp2
      obtain ⟨wo, hwo⟩ : ∃ wo : World, wo = wr := ⟨_, rfl⟩
      have HWO := Lib.hid hwo
      rw [← hwo] at HB LA HQ5
      clear hwo p3 p4 pl
      go_loopw [7, 8] (fun z t wr => ∃ (c : Bool) (j : Nat), j ≤ k.wk.n ∧ z = .bool c ∧ t = .int .i64 j ∧ Hid (c = decide (y ∈ xs.take j)) ∧ Hid (Below wo.heap.size wo wr)) (fun _ t _ => k.wk.n - (intOf t).toNat)
      case atStart => exact ⟨false, 0, Nat.zero_le _, rfl, rfl, Lib.hid (by simp), Lib.hid (by rw [HWO.out]; exact Below.refl _ _)⟩
      case round =>
        obtain ⟨c, j, hj, rfl, rfl, HC, HB6⟩ := hrel
        have LB := Lib.hid (LA.out.next HB6.out)
        have p3 := (LB.out.cat (w.heap.size + 1) k xs (by simp)).c3
        have pl := (LB.out.cat (w.heap.size + 1) k xs (by simp)).lt
        have i0 : (0 : Int) ≤ j := by omega
        by_cases hlt2 : j < k.wk.n
        · have i1 : (j : Int) < k.wk.n := by omega
          have it : decide ((j : Int) < k.wk.n) = true := decide_eq_true i1
          have iN : decide (j < k.wk.n) = true := decide_eq_true hlt2
          have HT := Lib.hid (take_mem1 (y := y) (xs := xs) (t := j) (by have := HX.out; omega))
          cases c
          · obtain ⟨bk, ok, ha, hbk, hck⟩ := (LB.out.wr (w.heap.size + 1) k xs (by simp)).2 (by omega)
            have hkc := hck j hlt2
            rw [ha] at p3
            obtain ⟨x, hx⟩ : ∃ x, x = xs.getD j 0 := ⟨_, rfl⟩
            rw [← hx] at hkc HT
            have hqc := (HB6.out.cell (p := ⟨b, off + q, none⟩) HQ5.out.2).trans HQ5.out.1
            have hbs6 : b < wr.heap.size := by have := HB6.out.size; have := HQ5.out.2; omega
            have HZ2 : ∀ m, Hid ((x == y) = decide (y ∈ xs.take (j + 1))) ∧ Hid (Below wo.heap.size wo (wr.drewN m)) := fun m => ⟨Lib.hid (by rw [HT.out, ← HC.out, Bool.false_or]), Lib.hid (below_drawn' HB6.out m)⟩
            clear hck hx ha
            go_wp2
            go_quiet (fail)
            go_wp2
            go_roundw
            case rel => exact ⟨_, j + 1, by omega, rfl, by go_num, (HZ2 0).1, (HZ2 _).2⟩
            case measure => simp [intOf]; omega
          · have HZ2 : ∀ m, Hid (true = decide (y ∈ xs.take (j + 1))) ∧ Hid (Below wo.heap.size wo (wr.drewN m)) := fun m => ⟨Lib.hid (by rw [HT.out, ← HC.out, Bool.true_or]), Lib.hid (below_drawn' HB6.out m)⟩
            go_wp2
            go_quiet (fail)
            go_wp2
            go_roundw
            case rel => exact ⟨_, j + 1, by omega, rfl, by go_num, (HZ2 0).1, (HZ2 _).2⟩
            case measure => simp [intOf]; omega
        · have it : decide ((j : Int) < k.wk.n) = false := decide_eq_false (by omega)
          have iN : decide (j < k.wk.n) = false := decide_eq_false hlt2
          have HCY : Hid (c = decide (y ∈ xs)) := Lib.hid (by rw [HC.out, List.take_of_length_le (by have := HX.out; omega)])
          have HB7 := Lib.hid (HB.out.trans (HB6.out.mono HB.out.size))
          cases c
          · have hR0 : R = false := by
              rw [HR.out]
              have hm : y ∈ g := by rw [HY.out]; exact getD_mem (by have := HN.out; omega)
              exact Bool.eq_false_iff.2 fun ht => by have := List.all_eq_true.1 ht y hm; rw [← HCY.out] at this; cases this
            subst hR0
            go_wp2
            go_ret
            exact ⟨rfl, LB.out.bel⟩
          · have HM2 : Hid (∀ j, j < q + 1 → decide (g.getD j 0 ∈ xs) = true) := Lib.hid (fun i hi => by
              by_cases e : i = q
              · rw [e, ← HY.out, ← HCY.out]
              · exact HM.out i (by omega))
            go_wp2
            go_roundw
            case rel => exact ⟨q + 1, by omega, by go_num, HM2, HB7⟩
            case measure => simp [intOf]; omega
    · obtain rfl : q = vn := by omega
      have jt : decide ((q : Int) < q) = false := by simp
      have hR1 : R = true := by
        rw [HR.out]
        refine List.all_eq_true.2 fun y hy => ?_
        obtain ⟨i, hi, e⟩ := List.mem_iff_getElem.1 hy
        have := HM.out i (by have := HN.out; omega)
        rwa [show g.getD i 0 = y by simp [List.getD, hi, e]] at this
      subst hR1
      go_wp2
      go_ret
      exact ⟨rfl, LA.out.bel⟩
theorem listed_any (hp : Hp w w.heap.size s d) (hk : WRow w w.heap.size k xs) (hz : Cl.Sz w) (hf : Fine s d) (hxl : xs.length ≤ 1000000) : Calls Tryd.prog 12 #[(.agg #[.slice s.w.a s.w.n s.w.c, .slice s.p.a s.p.n s.p.c, .slice (s.u 0).a (s.u 0).n (s.u 0).c, .slice (s.u 1).a (s.u 1).n (s.u 1).c, .slice (s.u 2).a (s.u 2).n (s.u 2).c, .slice s.c.a s.c.n s.c.c]), (.agg #[.int .i64 k.ph, .int .i64 k.ep, .bool k.mj, .slice k.wk.a k.wk.n k.wk.c, .bool k.ov, .int .i64 k.pa, .int .i64 k.pf, .int .i64 k.ps, .int .i64 k.pc, .bool k.me])] w fun e w' => e = .returned (.bool (listB s d k.mj k.ep k.ov xs)) ∧ Below w.heap.size w w' := by
  have hG := fun (W : World) (h : Lk w W [(w.heap.size, s, d)] [(w.heap.size + 1, k, xs)]) => grey_any s d k xs W (h.hp w.heap.size s d (by simp)) (h.wr (w.heap.size + 1) k xs (by simp)) (hz.over h.bel hz.pos) hf
  have hgl : (greyL s d k.mj k.ep).length ≤ 512 := Nat.le_trans (grey_len s d k.mj k.ep) (Nat.le_trans (used_len s d) (allS_len d.f s.p.n))
  by_cases ho : k.ov = true
  · rw [show listB s d k.mj k.ep k.ov xs = true by unfold listB; rw [ho]; rfl]
    exact listed_yes s d k xs (greyL s d k.mj k.ep) w ho hgl hp hk hG
  · have ho' : k.ov = false := by simpa using ho
    rw [show listB s d k.mj k.ep k.ov xs = ((greyL s d k.mj k.ep).all fun y => decide (y ∈ xs)) by unfold listB; rw [ho']; rfl]
    exact listed_no s d k xs (greyL s d k.mj k.ep) w _ rfl ho' hgl hxl hp hk hG
end
end Go.Proofs.YtdmclfolooiccaaDoor.Sh
end
section
namespace Go.Proofs.YtdmclfolooiccaaDoor.Cl
open Go.Proofs.YtdmclfolooiccaaDoor
set_option maxRecDepth 100000
open Go.RowKit

set_option maxHeartbeats 1000000 in
theorem same_yes (B B' : Nat) (A A' : Option Addr) (n c c' : Nat) (f g : Nat → Int × Int) (w : World) (hn : n ≤ 1000) (he : ∀ i, i < n → g i = f i) (hr : PRow w B A n f) (hr' : PRow w B' A' n g) (hB : B ≤ w.heap.size) (hB' : B' ≤ w.heap.size) :
    Calls Tryd.prog 32 #[.slice A n c, .slice A' n c'] w fun e w' => e = .returned (.bool true) ∧ Below w.heap.size w w' := by
  have HR := Lib.hid hr
  have HR' := Lib.hid (hr'.congr (fun i hi => (he i hi).symm))
  clear hr hr' he
  go_enter Tryd.func32, Tryd.ntmps32
  go_wp2
  go_loopw [5] (fun i wr => ∃ k : Nat, k ≤ n ∧ i = .int .i64 k ∧ Below w.heap.size w wr) (fun i _ => n - (intOf i).toNat)
  case atStart => exact ⟨0, Nat.zero_le _, rfl, Below.refl _ _⟩
  case round =>
    obtain ⟨k, hk, rfl, hb⟩ := hrel
    by_cases hlt : k < n
    · obtain ⟨b, off, rfl, hbB, hc⟩ := (HR.out.over hb hB) (by omega)
      obtain ⟨p0, p1⟩ := hc k hlt
      obtain ⟨b', off', rfl, hbB', hc'⟩ := (HR'.out.over hb hB') (by omega)
      obtain ⟨q0, q1⟩ := hc' k hlt
      have HB := Lib.hid hb
      have hz := hb.size
      have HQ := pneq_no (a := (f k).1) (b := (f k).2) ⟨rfl, rfl⟩
      clear hb hc hc'
      go_wp2
      go_quiet (fail)
      go_wp2
      go_roundw
      case rel => exact ⟨k + 1, by omega, by go_num, below_drewN HB.out _⟩
      case measure => simp [intOf]; omega
    · go_wp2
      go_ret
      exact ⟨rfl, hb⟩
end Go.Proofs.YtdmclfolooiccaaDoor.Cl
end
section
namespace Go.Proofs.YtdmclfolooiccaaDoor
open Go.RowKit
set_option maxRecDepth 100000

/-- Two heaps' boxes. -/
structure Two (w W : World) (s t : Hs) (d d2 : Hd_) : Prop where
  bel : Below w.heap.size w W
  b1 : HBox W w.heap.size s
  b2 : HBox W (w.heap.size + 1) t
  h1 : Hp W W.heap.size s d
  h2 : Hp W W.heap.size t d2
theorem Two.next {w W W' : World} {s t : Hs} {d d2 : Hd_} (h : Two w W s t d d2) (hb : Below W.heap.size W W') : Two w W' s t d d2 := ⟨h.bel.trans (hb.mono h.bel.size), h.b1.next hb, h.b2.next hb, h.h1.next hb, h.h2.next hb⟩
theorem two_start {w W : World} {s t : Hs} {d d2 : Hd_} (hp : Hp w w.heap.size s d) (ht : Hp w w.heap.size t d2) (h : W = (w.alloc (.cells #[.slice s.w.a s.w.n s.w.c, .slice s.p.a s.p.n s.p.c, .slice (s.u 0).a (s.u 0).n (s.u 0).c, .slice (s.u 1).a (s.u 1).n (s.u 1).c, .slice (s.u 2).a (s.u 2).n (s.u 2).c, .slice s.c.a s.c.n s.c.c] 28)).alloc (.cells #[.slice t.w.a t.w.n t.w.c, .slice t.p.a t.p.n t.p.c, .slice (t.u 0).a (t.u 0).n (t.u 0).c, .slice (t.u 1).a (t.u 1).n (t.u 1).c, .slice (t.u 2).a (t.u 2).n (t.u 2).c, .slice t.c.a t.c.n t.c.c] 28)) : Two w W s t d d2 := by
  have hb : Below w.heap.size w W := by rw [h]; exact ((Below.refl _ _).alloc (Nat.le_refl _) _).alloc (by simp) _
  have bx : Below (w.alloc (.cells #[.slice s.w.a s.w.n s.w.c, .slice s.p.a s.p.n s.p.c, .slice (s.u 0).a (s.u 0).n (s.u 0).c, .slice (s.u 1).a (s.u 1).n (s.u 1).c, .slice (s.u 2).a (s.u 2).n (s.u 2).c, .slice s.c.a s.c.n s.c.c] 28)).heap.size (w.alloc (.cells #[.slice s.w.a s.w.n s.w.c, .slice s.p.a s.p.n s.p.c, .slice (s.u 0).a (s.u 0).n (s.u 0).c, .slice (s.u 1).a (s.u 1).n (s.u 1).c, .slice (s.u 2).a (s.u 2).n (s.u 2).c, .slice s.c.a s.c.n s.c.c] 28)) W := by rw [h]; exact (Below.refl _ _).alloc (Nat.le_refl _) _
  have z := HBox.new (w.alloc (.cells #[.slice s.w.a s.w.n s.w.c, .slice s.p.a s.p.n s.p.c, .slice (s.u 0).a (s.u 0).n (s.u 0).c, .slice (s.u 1).a (s.u 1).n (s.u 1).c, .slice (s.u 2).a (s.u 2).n (s.u 2).c, .slice s.c.a s.c.n s.c.c] 28)) t 28
  rw [World.size_alloc] at z
  exact ⟨hb, (HBox.new w s 28).next bx, by rw [h]; exact z, hp.next hb, ht.next hb⟩
set_option maxHeartbeats 1000000 in
theorem rsame_yes (s : Hs) (d d2 : Hd_) (A1 A2 A3 : Option Addr) (C1 C2 C3 : Nat) (v : Nat → Ls.Sl) (w : World) (hp : Hp w w.heap.size s d) (ht : Hp w w.heap.size ⟨⟨A1, s.w.n, C1⟩, ⟨A2, s.p.n, C2⟩, v, ⟨A3, s.c.n, C3⟩⟩ d2) (e1 : d2.ws = d.ws) (e2 : ∀ i, i < s.p.n → d2.f i = d.f i) (e3 : ∀ j, j < 3 → d.F j = d2.F j) (e4 : ∀ i, i < s.c.n → d2.cs i = d.cs i)
    (hwn : s.w.n ≤ 4000) (hpn : s.p.n ≤ 1000) (hcn : s.c.n ≤ 100000) (hun : ∀ j, j < 3 → (s.u j).n ≤ 4000000) (hvn : ∀ j, j < 3 → (v j).n ≤ 4000000) :
    Calls Tryd.prog 13 #[(.agg #[.slice s.w.a s.w.n s.w.c, .slice s.p.a s.p.n s.p.c, .slice (s.u 0).a (s.u 0).n (s.u 0).c, .slice (s.u 1).a (s.u 1).n (s.u 1).c, .slice (s.u 2).a (s.u 2).n (s.u 2).c, .slice s.c.a s.c.n s.c.c]), (.agg #[.slice A1 s.w.n C1, .slice A2 s.p.n C2, .slice (v 0).a (v 0).n (v 0).c, .slice (v 1).a (v 1).n (v 1).c, .slice (v 2).a (v 2).n (v 2).c, .slice A3 s.c.n C3])] w fun e w' => e = .returned (.bool true) ∧ Below w.heap.size w w' := by
  have HP := Lib.hid hp
  have HT := Lib.hid ht
  have E1 := Lib.hid e1
  have E2 := Lib.hid e2
  have E3 := Lib.hid e3
  have E4 := Lib.hid e4
  have HUN := Lib.hid hun
  have HVN := Lib.hid hvn
  clear hp ht e1 e2 e3 e4 hun hvn
  go_enter Tryd.func13, Tryd.ntmps13
  go_wp2_with fail
  obtain ⟨W1, hW1⟩ : ∃ W1, W1 = (w.alloc (.cells #[.slice s.w.a s.w.n s.w.c, .slice s.p.a s.p.n s.p.c, .slice (s.u 0).a (s.u 0).n (s.u 0).c, .slice (s.u 1).a (s.u 1).n (s.u 1).c, .slice (s.u 2).a (s.u 2).n (s.u 2).c, .slice s.c.a s.c.n s.c.c] 28)).alloc (.cells #[.slice A1 s.w.n C1, .slice A2 s.p.n C2, .slice (v 0).a (v 0).n (v 0).c, .slice (v 1).a (v 1).n (v 1).c, .slice (v 2).a (v 2).n (v 2).c, .slice A3 s.c.n C3] 28) := ⟨_, rfl⟩
  have S1 := Lib.hid (two_start HP.out HT.out hW1)
  rw [← hW1]
  clear hW1
  refine (Ls.ints_tell W1.heap.size W1.heap.size s.w.a A1 s.w.n s.w.n s.w.c C1 d.ws d2.ws W1 (by omega) (by omega) S1.out.h1.words S1.out.h2.words).mono ?_
  rw [decide_eq_true E1.out.symm]
  rintro e9 w2 ⟨rfl, hb2⟩
  have S2 := Lib.hid (S1.out.next hb2)
  clear hb2 S1
  have q1 := S2.out.b1.c1
  have ql := S2.out.b1.lt
  have r1 := S2.out.b2.c1
  have rl := S2.out.b2.lt
  go_wp2_with fail
  refine (Cl.same_yes w2.heap.size w2.heap.size s.p.a A2 s.p.n s.p.c C2 d.f d2.f w2 hpn E2.out S2.out.h1.pages S2.out.h2.pages (Nat.le_refl _) (Nat.le_refl _)).mono ?_
  rintro e9 w3 ⟨rfl, hb3⟩
  have S3 := Lib.hid (S2.out.next hb3)
  clear hb3 S2 q1 ql r1 rl
  have q2 := S3.out.b1.c2
  have q3 := S3.out.b1.c3
  have q4 := S3.out.b1.c4
  have ql := S3.out.b1.lt
  have r2 := S3.out.b2.c2
  have r3 := S3.out.b2.c3
  have r4 := S3.out.b2.c4
  have rl := S3.out.b2.lt
  go_wp2_with fail
  refine (Ls.same_any w3.heap.size w3.heap.size s.u v d.F d2.F w3 S3.out.h1.free (Nat.le_refl _) S3.out.h2.free (Nat.le_refl _) HUN.out HVN.out).mono ?_
  rw [decide_eq_true (show Ls.sameUp d.F d2.F 3 from E3.out)]
  rintro e9 w4 ⟨rfl, hb4⟩
  have S4 := Lib.hid (S3.out.next hb4)
  clear hb4 S3 q2 q3 q4 ql r2 r3 r4 rl
  have q5 := S4.out.b1.c5
  have ql := S4.out.b1.lt
  have r5 := S4.out.b2.c5
  have rl := S4.out.b2.lt
  have dn : ((s.c.n : Int) != s.c.n) = false := by simp
  go_wp2
  go_loopw [8] (fun i wr => ∃ k : Nat, k ≤ s.c.n ∧ i = .int .i64 k ∧ Hid (Two w wr s ⟨⟨A1, s.w.n, C1⟩, ⟨A2, s.p.n, C2⟩, v, ⟨A3, s.c.n, C3⟩⟩ d d2)) (fun i _ => s.c.n - (intOf i).toNat)
  case atStart => exact ⟨0, Nat.zero_le _, rfl, S4⟩
  case round =>
    obtain ⟨k, hk, rfl, HR⟩ := hrel
    clear S4 q5 ql r5 rl
    have q5 := HR.out.b1.c5
    have ql := HR.out.b1.lt
    have r5 := HR.out.b2.c5
    have rl := HR.out.b2.lt
    by_cases hlt : k < s.c.n
    · have dq : decide ((k : Int) < s.c.n) = true := by simp; omega
      have ik0 : (0 : Int) ≤ k := by omega
      have ik1 : (k : Int) < s.c.n := by omega
      obtain ⟨b, off, ea, hbl, hc⟩ := HR.out.h1.cards (by omega)
      obtain ⟨b', off', ea', hbl', hc'⟩ := HR.out.h2.cards (show 0 < s.c.n by omega)
      have c1 := hc k hlt
      have c2 := hc' k hlt
      dsimp only at c2 ea' r5
      rw [E4.out k hlt] at c2
      rw [ea] at q5
      rw [ea'] at r5
      generalize d.cs k = x at c1 c2
      have dx : (x != x) = false := by simp
      clear hc hc' ea ea'
      go_wp2
      go_quiet (fail)
      have HR2 : Hid (Two w (wr.drewN nq) s ⟨⟨A1, s.w.n, C1⟩, ⟨A2, s.p.n, C2⟩, v, ⟨A3, s.c.n, C3⟩⟩ d d2) := Lib.hid (HR.out.next (below_drawn' (Below.refl _ _) nq))
      go_wp2
      go_roundw
      case rel => exact ⟨k + 1, by omega, by go_num, HR2⟩
      case measure => simp [intOf]; omega
    · have dq : decide ((k : Int) < s.c.n) = false := by simp; omega
      go_wp2
      go_ret
      exact ⟨rfl, HR.out.bel⟩
end Go.Proofs.YtdmclfolooiccaaDoor
end
section
namespace Go.Proofs.YtdmclfolooiccaaDoor.Sh
open Go.Proofs.YtdmclfolooiccaaDoor
open Go.RowKit
set_option maxRecDepth 100000

set_option maxHeartbeats 1000000 in
theorem rsame_no (s : Hs) (d d2 : Hd_) (A1 A2 A3 : Option Addr) (C1 C2 C3 : Nat) (v : Nat → Ls.Sl) (w : World) (hp : Hp w w.heap.size s d) (ht : Hp w w.heap.size ⟨⟨A1, s.w.n, C1⟩, ⟨A2, s.p.n, C2⟩, v, ⟨A3, s.c.n, C3⟩⟩ d2) (e1 : ¬ d.ws = d2.ws) (e2 : ∀ i, i < s.p.n → d2.f i = d.f i) (e3 : ∀ j, j < 3 → d.F j = d2.F j)
    (hwn : s.w.n ≤ 4000) (hpn : s.p.n ≤ 1000) (hun : ∀ j, j < 3 → (s.u j).n ≤ 4000000) (hvn : ∀ j, j < 3 → (v j).n ≤ 4000000) :
    Calls Tryd.prog 13 #[(.agg #[.slice s.w.a s.w.n s.w.c, .slice s.p.a s.p.n s.p.c, .slice (s.u 0).a (s.u 0).n (s.u 0).c, .slice (s.u 1).a (s.u 1).n (s.u 1).c, .slice (s.u 2).a (s.u 2).n (s.u 2).c, .slice s.c.a s.c.n s.c.c]), (.agg #[.slice A1 s.w.n C1, .slice A2 s.p.n C2, .slice (v 0).a (v 0).n (v 0).c, .slice (v 1).a (v 1).n (v 1).c, .slice (v 2).a (v 2).n (v 2).c, .slice A3 s.c.n C3])] w fun e w' => e = .returned (.bool false) ∧ Below w.heap.size w w' := by
  have HP := Lib.hid hp
  have HT := Lib.hid ht
  have E1 := Lib.hid e1
  have E2 := Lib.hid e2
  have E3 := Lib.hid e3
  have HUN := Lib.hid hun
  have HVN := Lib.hid hvn
  clear hp ht e1 e2 e3 hun hvn
  go_enter Tryd.func13, Tryd.ntmps13
  go_wp2_with fail
  obtain ⟨W1, hW1⟩ : ∃ W1, W1 = (w.alloc (.cells #[.slice s.w.a s.w.n s.w.c, .slice s.p.a s.p.n s.p.c, .slice (s.u 0).a (s.u 0).n (s.u 0).c, .slice (s.u 1).a (s.u 1).n (s.u 1).c, .slice (s.u 2).a (s.u 2).n (s.u 2).c, .slice s.c.a s.c.n s.c.c] 28)).alloc (.cells #[.slice A1 s.w.n C1, .slice A2 s.p.n C2, .slice (v 0).a (v 0).n (v 0).c, .slice (v 1).a (v 1).n (v 1).c, .slice (v 2).a (v 2).n (v 2).c, .slice A3 s.c.n C3] 28) := ⟨_, rfl⟩
  have S1 := Lib.hid (two_start HP.out HT.out hW1)
  rw [← hW1]
  clear hW1
  refine (Ls.ints_tell W1.heap.size W1.heap.size s.w.a A1 s.w.n s.w.n s.w.c C1 d.ws d2.ws W1 (by omega) (by omega) S1.out.h1.words S1.out.h2.words).mono ?_
  rw [decide_eq_false E1.out]
  rintro e9 w2 ⟨rfl, hb2⟩
  have S2 := Lib.hid (S1.out.next hb2)
  clear hb2 S1
  have q1 := S2.out.b1.c1
  have ql := S2.out.b1.lt
  have r1 := S2.out.b2.c1
  have rl := S2.out.b2.lt
  go_wp2_with fail
  refine (Cl.same_yes w2.heap.size w2.heap.size s.p.a A2 s.p.n s.p.c C2 d.f d2.f w2 hpn E2.out S2.out.h1.pages S2.out.h2.pages (Nat.le_refl _) (Nat.le_refl _)).mono ?_
  rintro e9 w3 ⟨rfl, hb3⟩
  have S3 := Lib.hid (S2.out.next hb3)
  clear hb3 S2 q1 ql r1 rl
  have q2 := S3.out.b1.c2
  have q3 := S3.out.b1.c3
  have q4 := S3.out.b1.c4
  have ql := S3.out.b1.lt
  have r2 := S3.out.b2.c2
  have r3 := S3.out.b2.c3
  have r4 := S3.out.b2.c4
  have rl := S3.out.b2.lt
  go_wp2_with fail
  refine (Ls.same_any w3.heap.size w3.heap.size s.u v d.F d2.F w3 S3.out.h1.free (Nat.le_refl _) S3.out.h2.free (Nat.le_refl _) HUN.out HVN.out).mono ?_
  rw [decide_eq_true (show Ls.sameUp d.F d2.F 3 from E3.out)]
  rintro e9 w4 ⟨rfl, hb4⟩
  have S4 := Lib.hid (S3.out.next hb4)
  clear hb4 S3 q2 q3 q4 ql r2 r3 r4 rl
  go_wp2
  go_ret
  exact ⟨rfl, S4.out.bel⟩
theorem hsame_yes (t s : Hs) (d : Hd_) (w : World) (hl : Lens s t) (hp : Hp w w.heap.size s d) (ht : Hp w w.heap.size t d) (hf : Fine s d) : Calls Tryd.prog 13 #[(.agg #[.slice t.w.a t.w.n t.w.c, .slice t.p.a t.p.n t.p.c, .slice (t.u 0).a (t.u 0).n (t.u 0).c, .slice (t.u 1).a (t.u 1).n (t.u 1).c, .slice (t.u 2).a (t.u 2).n (t.u 2).c, .slice t.c.a t.c.n t.c.c]), (.agg #[.slice s.w.a s.w.n s.w.c, .slice s.p.a s.p.n s.p.c, .slice (s.u 0).a (s.u 0).n (s.u 0).c, .slice (s.u 1).a (s.u 1).n (s.u 1).c, .slice (s.u 2).a (s.u 2).n (s.u 2).c, .slice s.c.a s.c.n s.c.c])] w fun e w' => e = .returned (.bool true) ∧ Below w.heap.size w w' := by
  have hu : ∀ j, j < 3 → (d.F j).length ≤ 4000000 := fun j hj => by
    have h1 := hf.len
    rw [upTo3] at h1
    rcases (show j = 0 ∨ j = 1 ∨ j = 2 by omega) with rfl | rfl | rfl <;> omega
  have hsn := fun j (hj : j < 3) => Nat.le_trans (Nat.le_of_eq (hp.free.len j hj)) (hu j hj)
  have htn := fun j (hj : j < 3) => Nat.le_trans (Nat.le_of_eq (ht.free.len j hj)) (hu j hj)
  obtain ⟨⟨a1, n1, c1⟩, ⟨a2, n2, c2⟩, su, ⟨a3, n3, c3⟩⟩ := s
  obtain ⟨⟨b1, m1, e1⟩, ⟨b2, m2, e2⟩, tu, ⟨b3, m3, e3⟩⟩ := t
  obtain ⟨l1, l2, l3, l4⟩ := hl
  dsimp only at l1 l2 l3 l4
  subst l1 l2 l4
  have h1 := hf.wn
  have h2 := hf.pn
  have h3 := hf.cn
  dsimp only at h1 h2 h3
  exact rsame_yes ⟨⟨b1, m1, e1⟩, ⟨b2, m2, e2⟩, tu, ⟨b3, m3, e3⟩⟩ d d a1 a2 a3 c1 c2 c3 su w ht hp rfl (fun _ _ => rfl) (fun _ _ => rfl) (fun _ _ => rfl) h1 (by show m2 ≤ 1000; omega) h3 htn hsn
theorem hsame_no (t s : Hs) (d d' : Hd_) (w : World) (hl : Lens s t) (hp : Hp w w.heap.size s d) (ht : Hp w w.heap.size t d') (hf : Fine s d) (hx : ¬ d'.ws = d.ws) (hpf : d'.f = d.f) (hF : d'.F = d.F) : Calls Tryd.prog 13 #[(.agg #[.slice t.w.a t.w.n t.w.c, .slice t.p.a t.p.n t.p.c, .slice (t.u 0).a (t.u 0).n (t.u 0).c, .slice (t.u 1).a (t.u 1).n (t.u 1).c, .slice (t.u 2).a (t.u 2).n (t.u 2).c, .slice t.c.a t.c.n t.c.c]), (.agg #[.slice s.w.a s.w.n s.w.c, .slice s.p.a s.p.n s.p.c, .slice (s.u 0).a (s.u 0).n (s.u 0).c, .slice (s.u 1).a (s.u 1).n (s.u 1).c, .slice (s.u 2).a (s.u 2).n (s.u 2).c, .slice s.c.a s.c.n s.c.c])] w fun e w' => e = .returned (.bool false) ∧ Below w.heap.size w w' := by
  have hu : ∀ j, j < 3 → (d.F j).length ≤ 4000000 := fun j hj => by
    have h1 := hf.len
    rw [upTo3] at h1
    rcases (show j = 0 ∨ j = 1 ∨ j = 2 by omega) with rfl | rfl | rfl <;> omega
  have hsn := fun j (hj : j < 3) => Nat.le_trans (Nat.le_of_eq (hp.free.len j hj)) (hu j hj)
  have htn : ∀ j, j < 3 → (t.u j).n ≤ 4000000 := fun j hj => by
    have h1 := ht.free.len j hj
    rw [hF] at h1
    have := hu j hj
    omega
  obtain ⟨⟨a1, n1, c1⟩, ⟨a2, n2, c2⟩, su, ⟨a3, n3, c3⟩⟩ := s
  obtain ⟨⟨b1, m1, e1⟩, ⟨b2, m2, e2⟩, tu, ⟨b3, m3, e3⟩⟩ := t
  obtain ⟨l1, l2, l3, l4⟩ := hl
  dsimp only at l1 l2 l3 l4
  subst l1 l2 l4
  have h1 := hf.wn
  have h2 := hf.pn
  dsimp only at h1 h2
  exact rsame_no ⟨⟨b1, m1, e1⟩, ⟨b2, m2, e2⟩, tu, ⟨b3, m3, e3⟩⟩ d' d a1 a2 a3 c1 c2 c3 su w ht hp hx (fun _ _ => by rw [hpf]) (fun _ _ => by rw [hF]) h1 (by show m2 ≤ 1000; omega) htn hsn
/-- A heap with what Shade left has the same pages, free cells. -/
theorem sh_f (s : Hs) (d : Hd_) (mj : Bool) (ep a : Int) : (shD s d mj ep a).f = d.f ∧ (shD s d mj ep a).F = d.F := by
  unfold shD
  split <;> exact ⟨rfl, rfl⟩
section
variable {w w3 w9 W W' : World} {s t : Hs} {d d' : Hd_} {k k' : Ks} {xs ys : List Int} {hs : List (Nat × Hs × Hd_)} {ks : List (Nat × Ks × List Int)} {b c : Nat} {v : Ls.Sl} {o : Bool}
/-- A heap and a collector more, in boxes of their own. -/
theorem Lk.addSh {ty ty' : TypeId} (h : Lk w w3 hs ks) (ha : Ls.Alling w3 w9 v ys) (hp : Hp w9 w9.heap.size t d') (hW : W = (w9.alloc (.cells #[.slice t.w.a t.w.n t.w.c, .slice t.p.a t.p.n t.p.c, .slice (t.u 0).a (t.u 0).n (t.u 0).c, .slice (t.u 1).a (t.u 1).n (t.u 1).c, .slice (t.u 2).a (t.u 2).n (t.u 2).c, .slice t.c.a t.c.n t.c.c] ty)).alloc (.cells #[.int .i64 k.ph, .int .i64 k.ep, .bool k.mj, .slice v.a v.n v.c, .bool o, .int .i64 k.pa, .int .i64 k.pf, .int .i64 k.ps, .int .i64 k.pc, .bool k.me] ty')) : Lk w W ((w9.heap.size, t, d') :: hs) ((w9.heap.size + 1, kw k v o, ys) :: ks) := by
  have b1 : Below w9.heap.size w9 W := by rw [hW]; exact ((Below.refl _ _).alloc (Nat.le_refl _) _).alloc (by simp) _
  have b2 : Below (w9.alloc (.cells #[.slice t.w.a t.w.n t.w.c, .slice t.p.a t.p.n t.p.c, .slice (t.u 0).a (t.u 0).n (t.u 0).c, .slice (t.u 1).a (t.u 1).n (t.u 1).c, .slice (t.u 2).a (t.u 2).n (t.u 2).c, .slice t.c.a t.c.n t.c.c] ty)).heap.size (w9.alloc (.cells #[.slice t.w.a t.w.n t.w.c, .slice t.p.a t.p.n t.p.c, .slice (t.u 0).a (t.u 0).n (t.u 0).c, .slice (t.u 1).a (t.u 1).n (t.u 1).c, .slice (t.u 2).a (t.u 2).n (t.u 2).c, .slice t.c.a t.c.n t.c.c] ty)) W := by rw [hW]; exact (Below.refl _ _).alloc (Nat.le_refl _) _
  have x2 := CBox.new (w9.alloc (.cells #[.slice t.w.a t.w.n t.w.c, .slice t.p.a t.p.n t.p.c, .slice (t.u 0).a (t.u 0).n (t.u 0).c, .slice (t.u 1).a (t.u 1).n (t.u 1).c, .slice (t.u 2).a (t.u 2).n (t.u 2).c, .slice t.c.a t.c.n t.c.c] ty)) (kw k v o) ty'
  rw [World.size_alloc] at x2
  exact ((h.next (ha.bel.trans (b1.mono ha.bel.size))).addH ((HBox.new w9 t ty).next b2) (hp.next b1)).addK (by rw [hW]; exact x2) (WRow.next (k := kw k v o) (row_of ha.own) b1)
/-- A heap more. -/
theorem Lk.addBl {ty : TypeId} (h : Lk w w3 hs ks) (hb : Below w3.heap.size w3 w9) (hp : Hp w9 w9.heap.size t d') (hW : W = w9.alloc (.cells #[.slice t.w.a t.w.n t.w.c, .slice t.p.a t.p.n t.p.c, .slice (t.u 0).a (t.u 0).n (t.u 0).c, .slice (t.u 1).a (t.u 1).n (t.u 1).c, .slice (t.u 2).a (t.u 2).n (t.u 2).c, .slice t.c.a t.c.n t.c.c] ty)) : Lk w W ((w9.heap.size, t, d') :: hs) ks := by
  have b1 : Below w9.heap.size w9 W := by rw [hW]; exact (Below.refl _ _).alloc (Nat.le_refl _) _
  exact (h.next (hb.trans (b1.mono hb.size))).addH (by rw [hW]; exact HBox.new w9 t ty) (hp.next b1)
end
end Go.Proofs.YtdmclfolooiccaaDoor.Sh
end
section
namespace Go.Proofs.YtdmclfolooiccaaDoor
open Go.RowKit
set_option maxRecDepth 100000

theorem make_ints (n : Nat) (h : n ≤ 1000) (w : World) : (Instr.makeSlice 22 (.int .i64 (n : Int)) (.int .i64 (n : Int))).run Tryd.prog w = .ok (.slice (some ⟨w.heap.size, 0, none⟩) n n) (w.alloc (.cells (madeCells #[.int .i64 0] n) 3)) := by
  obtain ⟨i0, hi, hz0, hz1, hz2⟩ := info_parts Ls.info_int1
  have := run_make (P := Tryd.prog) w 22 3 i0 _ Tryd.underlying22 hi hz0 .i64 .i64 n n (by omega) (Int.le_refl _) (by rw [hz2]; omega) (by omega)
  rw [hz1] at this
  simpa [Value.cells] using this
def sM (g gp gc : Nat) : Hs := ⟨⟨some ⟨g, 0, none⟩, 16, 16⟩, ⟨some ⟨gp, 0, none⟩, 1, 1⟩, Ls.noSl, ⟨some ⟨gc, 0, none⟩, 2, 2⟩⟩
def wsM : List Int := [0, 0, 0, 0, 0, 0, 0, 0, 41, 0, 0, 0, 0, 0, 0, 0]
theorem wsM_at : ∀ i, i < 16 → wsM.getD i 0 = if i = 8 then 41 else 0 := by decide
def dM : Hd_ := ⟨wsM, fun _ => (1, 2), Ls.noLists, fun _ => false⟩
/-- What the example's heap lies in. -/
structure AwM (w wc : World) (b g gp gc : Nat) : Prop where
  hb : wc.heap[b]? = some (.cells #[.slice (some ⟨g, 0, none⟩) 16 16, .slice (some ⟨gp, 0, none⟩) 1 1, .slice none 0 0, .slice none 0 0, .slice none 0 0, .slice (some ⟨gc, 0, none⟩) 2 2] 28)
  hg : wc.heap[g]? = some (.cells (madeCells #[.int .i64 0] 16) 3)
  hp : wc.heap[gp]? = some (.cells #[.int .i64 1, .int .i64 2] 50)
  hc : wc.heap[gc]? = some (zBools 2)
  ap : ¬ g = gp ∧ ¬ g = gc ∧ ¬ g = b
  old : w.heap.size ≤ g
  bel : Below w.heap.size w wc
theorem four (W : World) (o1 o2 o3 o4 : Obj) : ((((W.alloc o1).alloc o2).alloc o3).alloc o4).heap[W.heap.size]? = some o1 ∧ ((((W.alloc o1).alloc o2).alloc o3).alloc o4).heap[W.heap.size + 1]? = some o2 ∧
    ((((W.alloc o1).alloc o2).alloc o3).alloc o4).heap[W.heap.size + 1 + 1]? = some o3 ∧ ((((W.alloc o1).alloc o2).alloc o3).alloc o4).heap[W.heap.size + 1 + 1 + 1]? = some o4 := by
  refine ⟨?_, ?_, ?_, ?_⟩
  · rw [Below.heap_alloc _ _ _ (by simp only [World.size_alloc]; omega), Below.heap_alloc _ _ _ (by simp only [World.size_alloc]; omega), Below.heap_alloc _ _ _ (by simp only [World.size_alloc]; omega)]
    exact World.alloc_heap_new W o1
  · rw [Below.heap_alloc _ _ _ (by simp only [World.size_alloc]; omega), Below.heap_alloc _ _ _ (by simp only [World.size_alloc]; omega)]
    have := World.alloc_heap_new (W.alloc o1) o2
    rwa [World.size_alloc] at this
  · rw [Below.heap_alloc _ _ _ (by simp)]
    have := World.alloc_heap_new ((W.alloc o1).alloc o2) o3
    rwa [World.size_alloc, World.size_alloc] at this
  · have := World.alloc_heap_new (((W.alloc o1).alloc o2).alloc o3) o4
    rwa [World.size_alloc, World.size_alloc, World.size_alloc] at this
theorem four_below (W : World) (o1 o2 o3 o4 : Obj) (q : Nat) : Below W.heap.size W (((((W.alloc o1).alloc o2).alloc o3).alloc o4).drewN q) :=
  below_drawn' (((((Below.refl _ _).alloc (Nat.le_refl _) o1).alloc (by simp) o2).alloc (by simp; omega) o3).alloc (by simp; omega) o4) q
theorem aw_box {w wc : World} {b g gp gc : Nat} (h : AwM w wc b g gp gc) : HBox wc b (sM g gp gc) := by
  have := h.hb
  exact ⟨by simp [World.cell?, this, sM], by simp [World.cell?, this, sM], by simp [World.cell?, this, sM, Ls.noSl], by simp [World.cell?, this, sM, Ls.noSl], by simp [World.cell?, this, sM, Ls.noSl], by simp [World.cell?, this, sM], (Array.getElem?_eq_some_iff.1 this).1⟩
theorem aw_word {w wc : World} {b g gp gc : Nat} (h : AwM w wc b g gp gc) : wc.cell? ⟨g, 8, none⟩ = some (.int .i64 0) ∧ wc.frozen? ⟨g, 8, none⟩ = false ∧ g < wc.heap.size := by
  have := h.hg
  exact ⟨by simp [World.cell?, this, madeCells], by simp [World.frozen?, this], (Array.getElem?_eq_some_iff.1 this).1⟩
theorem aw_store {w wc : World} {b g gp gc : Nat} (h : AwM w wc b g gp gc) :
    HBox (wc.setCell ⟨g, 8, none⟩ (.int .i64 41)) b (sM g gp gc) ∧ Hp (wc.setCell ⟨g, 8, none⟩ (.int .i64 41)) (wc.setCell ⟨g, 8, none⟩ (.int .i64 41)).heap.size (sM g gp gc) dM ∧ Below w.heap.size w (wc.setCell ⟨g, 8, none⟩ (.int .i64 41)) := by
  have hs : ∀ k, ¬ k = g → (wc.setCell ⟨g, 8, none⟩ (.int .i64 41)).heap[k]? = wc.heap[k]? := fun k hk => Below.heap_setCell _ _ _ _ hk
  have hz : (wc.setCell ⟨g, 8, none⟩ (.int .i64 41)).heap.size = wc.heap.size := by simp [World.setCell]
  obtain ⟨a1, a2, a3⟩ := h.ap
  refine ⟨(aw_box h).same (hs b (fun e => a3 e.symm)) (by rw [hz]; exact Nat.le_refl _), ⟨⟨rfl, fun _ => ⟨g, 0, rfl, by rw [hz]; exact (aw_word h).2.2, fun i hi => ?_⟩⟩, fun _ => ⟨gp, 0, rfl, by rw [hz]; exact (Array.getElem?_eq_some_iff.1 h.hp).1, fun i hi => ?_⟩, Ls.L3.none_ _ _, fun _ => ⟨gc, 0, rfl, by rw [hz]; exact (Array.getElem?_eq_some_iff.1 h.hc).1, fun i hi => ?_⟩⟩, h.bel.setCell (p := ⟨g, 8, none⟩) h.old _⟩
  · have hi' : i < 16 := hi
    by_cases e : i = 8
    · subst e
      have := World.cell?_setCell_same' wc ⟨g, 8, none⟩ (.int .i64 41) (by rw [(aw_word h).1]; rfl)
      simpa [dM, wsM] using this
    · rw [World.cell?_setCell_other _ _ _ _ (by intro hh; simp only [Addr.mk.injEq, true_and, and_true] at hh; omega)]
      have h2 : wc.cell? ⟨g, 0 + i, none⟩ = some (.int .i64 0) := by simp [World.cell?, h.hg, madeCells, hi', Nat.mod_one]
      rw [h2]
      have : wsM.getD i 0 = 0 := by rw [wsM_at i hi', if_neg e]
      show _ = some (Value.int .i64 (wsM.getD i 0))
      rw [this]
  · obtain rfl : i = 0 := by have : i < 1 := hi; omega
    constructor
    · rw [World.cell?_of_block (a := ⟨gp, 0 + 0 * 2, none⟩) (hs gp (fun e => a1 e.symm))]
      simp [World.cell?, h.hp, dM]
    · rw [World.cell?_of_block (a := ⟨gp, 0 + 0 * 2 + 1, none⟩) (hs gp (fun e => a1 e.symm))]
      simp [World.cell?, h.hp, dM]
  · have hi' : i < 2 := hi
    rw [World.cell?_of_block (a := ⟨gc, 0 + i, none⟩) (hs gc (fun e => a2 e.symm))]
    simp [World.cell?, h.hc, zBools, madeCells, hi', Nat.mod_one, dM]
def dZ : Hd_ := ⟨List.replicate 32 0, fun _ => (0, 0), Ls.noLists, fun _ => false⟩
def dK : Hd_ := ⟨wsM, fun _ => (1, 2), fun j => if j = 2 then [16] else [], fun _ => false⟩
theorem fine_M (g gp gc : Nat) : Fine (sM g gp gc) dM := by
  refine ⟨by show (16 : Nat) ≤ 4000; omega, by show (1 : Nat) ≤ 200; omega, by show (2 : Nat) ≤ 100000; omega, fun i => ?_, by decide⟩
  show -9223372036854775808 ≤ wsM.getD i 0 ∧ wsM.getD i 0 ≤ 9223372036854775807
  have : wsM.getD i 0 = 0 ∨ wsM.getD i 0 = 41 := by
    by_cases h : i < 16
    · rw [wsM_at i h]
      split <;> simp
    · left
      simp [List.getD, List.getElem?_eq_none (show wsM.length ≤ i from by show 16 ≤ i; omega)]
  omega
/-- What the example holds: three heaps in their boxes, a head. -/
structure Six (w : World) (b1 b bk bx : Nat) (s1 s3 sk : Hs) (W : World) : Prop where
  h : HBox W b1 s1
  m : HBox W b s3
  k : HBox W bk sk
  ph : Hp W W.heap.size s1 dZ
  pm : Hp W W.heap.size s3 dM
  pk : Hp W W.heap.size sk dK
  n : W.cell? ⟨bx, 3, none⟩ = some (.int .i64 5)
  nl : bx < W.heap.size
  bel : Below w.heap.size w W
theorem Six.next {w W W' : World} {b1 b bk bx : Nat} {s1 s3 sk : Hs} (h : Six w b1 b bk bx s1 s3 sk W) (hb : Below W.heap.size W W') (h0 : w.heap.size ≤ W.heap.size) : Six w b1 b bk bx s1 s3 sk W' :=
  ⟨h.h.next hb, h.m.next hb, h.k.next hb, h.ph.next hb, h.pm.next hb, h.pk.next hb, (hb.cell (p := ⟨bx, 3, none⟩) h.nl).trans h.n, Nat.lt_of_lt_of_le h.nl hb.size, h.bel.trans (hb.mono h0)⟩
end Go.Proofs.YtdmclfolooiccaaDoor
end
section
namespace Go.Proofs.YtdmclfolooiccaaDoor.Sh
open Go.Proofs.YtdmclfolooiccaaDoor
open Go.RowKit
set_option maxRecDepth 100000

def cA : Ks := ⟨0, 1, false, ⟨none, 0, 0⟩, false, 0, 0, 0, 0, false⟩
def dS : Hd_ := dHd dM 24 false 1
theorem isA (g gp gc : Nat) : isC (sM g gp gc) dM false 1 24 1 = true := by kernel_rfl
theorem shA (g gp gc : Nat) : shD (sM g gp gc) dM false 1 24 = dS := if_pos (isA g gp gc)
theorem greyA {g gp gc : Nat} {t : Hs} (h : Lens (sM g gp gc) t) : greyL t dS false 1 = [24] := by
  obtain ⟨⟨a1, n1, c1⟩, ⟨a2, n2, c2⟩, u, ⟨a3, n3, c3⟩⟩ := t
  obtain ⟨h1, h2, _, h4⟩ := h
  dsimp only [sM] at h1 h2 h4
  subst h1 h2 h4
  kernel_rfl
theorem whiteA {g gp gc : Nat} {t : Hs} (h : Lens (sM g gp gc) t) : isC t dS false 1 24 1 = false := by
  have := sh_white (d := dM) (mj := false) (ep := 1) (a := 24) h (by rfl)
  rwa [shA] at this
theorem fineA {g gp gc : Nat} {t : Hs} (h : Lens (sM g gp gc) t) : Fine t dS := by
  have := (kin_sh (d := dM) h (by rfl) false 1 24).fine (fine_M g gp gc)
  rwa [shA] at this
theorem callA (m mp mc : Nat) (W : World) (hp : Hp W W.heap.size (sM m mp mc) dM) (hk : WRow W W.heap.size cA []) (hz : Cl.Sz W) : Calls Tryd.prog 10 #[(.agg #[.slice (sM m mp mc).w.a (sM m mp mc).w.n (sM m mp mc).w.c, .slice (sM m mp mc).p.a (sM m mp mc).p.n (sM m mp mc).p.c, .slice ((sM m mp mc).u 0).a ((sM m mp mc).u 0).n ((sM m mp mc).u 0).c, .slice ((sM m mp mc).u 1).a ((sM m mp mc).u 1).n ((sM m mp mc).u 1).c, .slice ((sM m mp mc).u 2).a ((sM m mp mc).u 2).n ((sM m mp mc).u 2).c, .slice (sM m mp mc).c.a (sM m mp mc).c.n (sM m mp mc).c.c]), (.agg #[.int .i64 cA.ph, .int .i64 cA.ep, .bool cA.mj, .slice cA.wk.a cA.wk.n cA.wk.c, .bool cA.ov, .int .i64 cA.pa, .int .i64 cA.pf, .int .i64 cA.ps, .int .i64 cA.pc, .bool cA.me]), .int .i64 24] W (ShOut W (sM m mp mc) cA dS false [24]) := by
  have := shade_any (sM m mp mc) dM cA [] 24 W (by simp) hp hk hz (fine_M m mp mc)
  rw [show shD (sM m mp mc) dM cA.mj cA.ep 24 = dS from shA m mp mc, show isC (sM m mp mc) dM cA.mj cA.ep 24 1 = true from isA m mp mc] at this
  exact this
theorem lk_A {w w3 W : World} {b m mp mc : Nat} {ty : TypeId} (hb : HBox w3 b (sM m mp mc)) (hp : Hp w3 w3.heap.size (sM m mp mc) dM) (bel : Below w.heap.size w w3) (hW : W = w3.alloc (.cells #[.int .i64 cA.ph, .int .i64 cA.ep, .bool cA.mj, .slice cA.wk.a cA.wk.n cA.wk.c, .bool cA.ov, .int .i64 cA.pa, .int .i64 cA.pf, .int .i64 cA.ps, .int .i64 cA.pc, .bool cA.me] ty)) : Lk w W [(b, sM m mp mc, dM)] [(w3.heap.size, cA, [])] := by
  have b1 : Below w3.heap.size w3 W := by rw [hW]; exact (Below.refl _ _).alloc (Nat.le_refl _) _
  refine ⟨bel.trans (b1.mono bel.size), fun x hx => ?_, fun x hx => ?_⟩
  · obtain rfl := List.mem_singleton.1 hx
    exact ⟨hb.next b1, hp.next b1⟩
  · obtain rfl := List.mem_singleton.1 hx
    exact ⟨by rw [hW]; exact CBox.new w3 cA ty, Row.none_ _ _⟩
set_option maxHeartbeats 4000000 in
theorem awake_any (w : World) (hz : Cl.Sz w) : Calls Tryd.prog 7 #[] w fun e w' => e = .returned (.bool true) ∧ Below w.heap.size w w' := by
  have HZ := Lib.hid hz
  have hz0 := hz.pos
  have mi := make_ints 16 (by omega)
  have mb := make_bools 2 (by omega)
  simp only [show ((2 : Nat) : Int) = 2 from rfl, show ((16 : Nat) : Int) = 16 from rfl] at mi mb
  clear hz
  go_enter Tryd.func7, Tryd.ntmps7
  go_upto_region 1 with (fail)
  go_cut [1] from 7 to 46 (fun v wc => ∃ b g gp gc : Nat, v = .pointer (some ⟨b, 0, none⟩) ∧ Hid (AwM w wc b g gp gc))
  case first =>
    go_region
    all_goals go_wp2_with fail
    all_goals go_meet
    all_goals exact ⟨_, _, _, _, rfl, Lib.hid ⟨(by first | exact (four _ _ _ _ _).1 | exact (four _ _ _ _ _).2.1 | exact (four _ _ _ _ _).2.2.1 | exact (four _ _ _ _ _).2.2.2), (by first | exact (four _ _ _ _ _).1 | exact (four _ _ _ _ _).2.1 | exact (four _ _ _ _ _).2.2.1 | exact (four _ _ _ _ _).2.2.2), (by first | exact (four _ _ _ _ _).1 | exact (four _ _ _ _ _).2.1 | exact (four _ _ _ _ _).2.2.1 | exact (four _ _ _ _ _).2.2.2), (by first | exact (four _ _ _ _ _).1 | exact (four _ _ _ _ _).2.1 | exact (four _ _ _ _ _).2.2.1 | exact (four _ _ _ _ _).2.2.2), ⟨by omega, by omega, by omega⟩, by omega, four_below _ _ _ _ _ _⟩⟩
  case rest =>
    obtain ⟨b, m, mp, mc, rfl, HA⟩ := hcut
    have hbx := aw_box HA.out
    have q0 := hbx.c0
    have ql := hbx.lt
    obtain ⟨c8, f8, l8⟩ := aw_word HA.out
    have HS := Lib.hid (aw_store HA.out)
    dsimp only [sM] at q0
    clear hbx
    go_upto_region 3 with (fail)
    clear c8 f8 l8 q0 ql HA
    generalize wc.setCell ⟨m, 8, none⟩ (.int .i64 41) = w3 at HS ⊢
    go_upto_region 4 with (fail)
    obtain ⟨W4, hW4⟩ : ∃ W4, W4 = w3.alloc (.cells #[.int .i64 0, .int .i64 1, .bool false, .slice none 0 0, .bool false, .int .i64 0, .int .i64 0, .int .i64 0, .int .i64 0, .bool false] 30) := ⟨_, rfl⟩
    obtain ⟨bc, hbc⟩ : ∃ bc, bc = w3.heap.size := ⟨_, rfl⟩
    have L4 := Lib.hid (lk_A HS.out.1 HS.out.2.1 HS.out.2.2 hW4)
    rw [← hbc] at L4
    rw [← hW4, ← hbc]
    clear hW4 hbc HS
    have q0 := (L4.out.at b (sM m mp mc) dM (by simp)).c0
    have q1 := (L4.out.at b (sM m mp mc) dM (by simp)).c1
    have q2 := (L4.out.at b (sM m mp mc) dM (by simp)).c2
    have q3 := (L4.out.at b (sM m mp mc) dM (by simp)).c3
    have q4 := (L4.out.at b (sM m mp mc) dM (by simp)).c4
    have q5 := (L4.out.at b (sM m mp mc) dM (by simp)).c5
    have ql := (L4.out.at b (sM m mp mc) dM (by simp)).lt
    have p0 := (L4.out.cat bc cA [] (by simp)).c0
    have p1 := (L4.out.cat bc cA [] (by simp)).c1
    have p2 := (L4.out.cat bc cA [] (by simp)).c2
    have p3 := (L4.out.cat bc cA [] (by simp)).c3
    have p4 := (L4.out.cat bc cA [] (by simp)).c4
    have p5 := (L4.out.cat bc cA [] (by simp)).c5
    have p6 := (L4.out.cat bc cA [] (by simp)).c6
    have p7 := (L4.out.cat bc cA [] (by simp)).c7
    have p8 := (L4.out.cat bc cA [] (by simp)).c8
    have p9 := (L4.out.cat bc cA [] (by simp)).c9
    have pl := (L4.out.cat bc cA [] (by simp)).lt
    dsimp only [sM, Ls.noSl] at q0 q1 q2 q3 q4 q5
    dsimp only [cA] at p0 p1 p2 p3 p4 p5 p6 p7 p8 p9
    go_wp2_with fail
    refine (callA m mp mc W4 (L4.out.hp b (sM m mp mc) dM (by simp)) (L4.out.wr bc cA [] (by simp)) (HZ.out.over L4.out.bel hz0)).mono ?_
    rintro e w5 ⟨t, v, rfl, hp5, hl5, _, ha5⟩
    have TL := Lib.hid hl5
    have AP := Lib.hid (And.intro ha5 hp5)
    clear hp5 hl5 ha5
    clear q0 q1 q2 q3 q4 q5 ql
    clear p0 p1 p2 p3 p4 p5 p6 p7 p8 p9 pl
    go_upto_region 5 with (fail)
    obtain ⟨W6, hW6⟩ : ∃ W6, W6 = (w5.alloc (.cells #[.slice t.w.a t.w.n t.w.c, .slice t.p.a t.p.n t.p.c, .slice (t.u 0).a (t.u 0).n (t.u 0).c, .slice (t.u 1).a (t.u 1).n (t.u 1).c, .slice (t.u 2).a (t.u 2).n (t.u 2).c, .slice t.c.a t.c.n t.c.c] 28)).alloc (.cells #[.int .i64 cA.ph, .int .i64 cA.ep, .bool cA.mj, .slice v.a v.n v.c, .bool false, .int .i64 cA.pa, .int .i64 cA.pf, .int .i64 cA.ps, .int .i64 cA.pc, .bool cA.me] 30) := ⟨_, rfl⟩
    obtain ⟨b6, hb6⟩ : ∃ b6, b6 = w5.heap.size := ⟨_, rfl⟩
    have L6 := Lib.hid (L4.out.addSh AP.out.1 AP.out.2 hW6)
    rw [← hb6] at L6
    rw [← hW6, ← hb6]
    clear hW6 hb6 AP L4
    have p3 := (L6.out.cat (b6 + 1) (kw cA v false) [24] (by simp)).c3
    have pl := (L6.out.cat (b6 + 1) (kw cA v false) [24] (by simp)).lt
    dsimp only [kw] at p3
    have hvn : v.n ≤ 4000000 := by have := (L6.out.wr (b6 + 1) (kw cA v false) [24] (by simp)).len; simp [kw] at this; omega
    go_wp2_with fail
    have hbl := (Below.refl W6.heap.size W6).alloc (Nat.le_refl _) (.cells #[.int .i64 24] 3)
    refine (Ls.ints_tell _ _ v.a _ v.n 1 v.c 1 [24] [24] _ hvn (by omega) (Row.below (L6.out.wr (b6 + 1) (kw cA v false) [24] (by simp)) hbl) (Ls.row_lit1 W6 24)).mono ?_
    rw [decide_eq_true rfl]
    rintro e w7 ⟨rfl, hb7⟩
    have L7 := Lib.hid (L6.out.next (hbl.trans (hb7.mono hbl.size)))
    clear hbl hb7 p3 pl L6
    have q0 := (L7.out.at b6 t dS (by simp)).c0
    have q1 := (L7.out.at b6 t dS (by simp)).c1
    have q2 := (L7.out.at b6 t dS (by simp)).c2
    have q3 := (L7.out.at b6 t dS (by simp)).c3
    have q4 := (L7.out.at b6 t dS (by simp)).c4
    have q5 := (L7.out.at b6 t dS (by simp)).c5
    have ql := (L7.out.at b6 t dS (by simp)).lt
    have p0 := (L7.out.cat (b6 + 1) (kw cA v false) [24] (by simp)).c0
    have p1 := (L7.out.cat (b6 + 1) (kw cA v false) [24] (by simp)).c1
    have p2 := (L7.out.cat (b6 + 1) (kw cA v false) [24] (by simp)).c2
    have p3 := (L7.out.cat (b6 + 1) (kw cA v false) [24] (by simp)).c3
    have p4 := (L7.out.cat (b6 + 1) (kw cA v false) [24] (by simp)).c4
    have p5 := (L7.out.cat (b6 + 1) (kw cA v false) [24] (by simp)).c5
    have p6 := (L7.out.cat (b6 + 1) (kw cA v false) [24] (by simp)).c6
    have p7 := (L7.out.cat (b6 + 1) (kw cA v false) [24] (by simp)).c7
    have p8 := (L7.out.cat (b6 + 1) (kw cA v false) [24] (by simp)).c8
    have p9 := (L7.out.cat (b6 + 1) (kw cA v false) [24] (by simp)).c9
    have pl := (L7.out.cat (b6 + 1) (kw cA v false) [24] (by simp)).lt
    dsimp only [kw] at p0 p1 p2 p3 p4 p5 p6 p7 p8 p9
    go_wp2_with fail
    refine (grey_any t dS (kw cA v false) [24] w7 (L7.out.hp b6 t dS (by simp)) (L7.out.wr (b6 + 1) (kw cA v false) [24] (by simp)) (HZ.out.over L7.out.bel hz0) (fineA TL.out)).mono ?_
    rw [show greyL t dS (kw cA v false).mj (kw cA v false).ep = [24] from greyA TL.out]
    rintro e w8 ⟨⟨ga, gn, gc⟩, rfl, ho8, hb8⟩
    have L8 := Lib.hid (L7.out.next hb8)
    have hgn : gn ≤ 4000000 := by have := ho8.1; simp at this; omega
    have R8 := Lib.hid (row_of ho8)
    clear hb8 ho8 L7
    clear q0 q1 q2 q3 q4 q5 ql
    clear p0 p1 p2 p3 p4 p5 p6 p7 p8 p9 pl
    go_wp2_with fail
    have hbl := (Below.refl w8.heap.size w8).alloc (Nat.le_refl _) (.cells #[.int .i64 24] 3)
    refine (Ls.ints_tell _ _ ga _ gn 1 gc 1 [24] [24] _ hgn (by omega) (Row.below R8.out hbl) (Ls.row_lit1 w8 24)).mono ?_
    rw [decide_eq_true rfl]
    rintro e w9 ⟨rfl, hb9⟩
    have L9 := Lib.hid (L8.out.next (hbl.trans (hb9.mono hbl.size)))
    clear hbl hb9 L8 R8
    have q0 := (L9.out.at b (sM m mp mc) dM (by simp)).c0
    have q1 := (L9.out.at b (sM m mp mc) dM (by simp)).c1
    have q2 := (L9.out.at b (sM m mp mc) dM (by simp)).c2
    have q3 := (L9.out.at b (sM m mp mc) dM (by simp)).c3
    have q4 := (L9.out.at b (sM m mp mc) dM (by simp)).c4
    have q5 := (L9.out.at b (sM m mp mc) dM (by simp)).c5
    have ql := (L9.out.at b (sM m mp mc) dM (by simp)).lt
    have p0 := (L9.out.cat bc cA [] (by simp)).c0
    have p1 := (L9.out.cat bc cA [] (by simp)).c1
    have p2 := (L9.out.cat bc cA [] (by simp)).c2
    have p3 := (L9.out.cat bc cA [] (by simp)).c3
    have p4 := (L9.out.cat bc cA [] (by simp)).c4
    have p5 := (L9.out.cat bc cA [] (by simp)).c5
    have p6 := (L9.out.cat bc cA [] (by simp)).c6
    have p7 := (L9.out.cat bc cA [] (by simp)).c7
    have p8 := (L9.out.cat bc cA [] (by simp)).c8
    have p9 := (L9.out.cat bc cA [] (by simp)).c9
    have pl := (L9.out.cat bc cA [] (by simp)).lt
    dsimp only [sM, Ls.noSl] at q0 q1 q2 q3 q4 q5
    dsimp only [cA] at p0 p1 p2 p3 p4 p5 p6 p7 p8 p9
    go_wp2_with fail
    refine (white_any (sM m mp mc) dM cA [] 24 w9 (L9.out.hp b (sM m mp mc) dM (by simp)) (L9.out.wr bc cA [] (by simp)) (HZ.out.over L9.out.bel hz0) (fine_M m mp mc)).mono ?_
    rw [show isC (sM m mp mc) dM cA.mj cA.ep 24 1 = true from isA m mp mc]
    rintro e w10 ⟨rfl, hb10⟩
    have L10 := Lib.hid (L9.out.next hb10)
    clear hb10 L9
    clear q0 q1 q2 q3 q4 q5 ql
    clear p0 p1 p2 p3 p4 p5 p6 p7 p8 p9 pl
    have q0 := (L10.out.at b6 t dS (by simp)).c0
    have q1 := (L10.out.at b6 t dS (by simp)).c1
    have q2 := (L10.out.at b6 t dS (by simp)).c2
    have q3 := (L10.out.at b6 t dS (by simp)).c3
    have q4 := (L10.out.at b6 t dS (by simp)).c4
    have q5 := (L10.out.at b6 t dS (by simp)).c5
    have ql := (L10.out.at b6 t dS (by simp)).lt
    have p0 := (L10.out.cat (b6 + 1) (kw cA v false) [24] (by simp)).c0
    have p1 := (L10.out.cat (b6 + 1) (kw cA v false) [24] (by simp)).c1
    have p2 := (L10.out.cat (b6 + 1) (kw cA v false) [24] (by simp)).c2
    have p3 := (L10.out.cat (b6 + 1) (kw cA v false) [24] (by simp)).c3
    have p4 := (L10.out.cat (b6 + 1) (kw cA v false) [24] (by simp)).c4
    have p5 := (L10.out.cat (b6 + 1) (kw cA v false) [24] (by simp)).c5
    have p6 := (L10.out.cat (b6 + 1) (kw cA v false) [24] (by simp)).c6
    have p7 := (L10.out.cat (b6 + 1) (kw cA v false) [24] (by simp)).c7
    have p8 := (L10.out.cat (b6 + 1) (kw cA v false) [24] (by simp)).c8
    have p9 := (L10.out.cat (b6 + 1) (kw cA v false) [24] (by simp)).c9
    have pl := (L10.out.cat (b6 + 1) (kw cA v false) [24] (by simp)).lt
    dsimp only [kw] at p0 p1 p2 p3 p4 p5 p6 p7 p8 p9
    go_wp2_with fail
    refine (white_any t dS (kw cA v false) [24] 24 w10 (L10.out.hp b6 t dS (by simp)) (L10.out.wr (b6 + 1) (kw cA v false) [24] (by simp)) (HZ.out.over L10.out.bel hz0) (fineA TL.out)).mono ?_
    rw [show isC t dS (kw cA v false).mj (kw cA v false).ep 24 1 = false from whiteA TL.out]
    rintro e w11 ⟨rfl, hb11⟩
    have L11 := Lib.hid (L10.out.next hb11)
    clear hb11 L10
    clear q0 q1 q2 q3 q4 q5 ql
    clear p0 p1 p2 p3 p4 p5 p6 p7 p8 p9 pl
    go_wp2
    go_ret
    exact ⟨rfl, L11.out.bel⟩
end Go.Proofs.YtdmclfolooiccaaDoor.Sh
end
