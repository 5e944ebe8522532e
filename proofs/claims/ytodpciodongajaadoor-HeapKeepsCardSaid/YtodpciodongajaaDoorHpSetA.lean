/-
  Package heap's Set, where nothing is set.
-/
import Derived.Test.YtodpciodongajaaDoorHpCp
import Derived.Test.YtodpciodongajaaDoorHpSetP
import Derived.Test.YtodpciodongajaaDoorHpHeadP
namespace Go.Proofs.YtodpciodongajaaDoor
open Go.RowKit
set_option maxRecDepth 100000

/-- What a walk through Set has in memory: the heap's box, the head's, the result's. -/
structure St (w W : World) (s : Hs) (d : Hd_) (u o e : Bool) (n b m : Int) : Prop where
  bel : Below w.heap.size w W
  hb : HBox W w.heap.size s
  xb : X6 W (w.heap.size + 1) u o e n b m
  rb : Box6 W (w.heap.size + 2) noHs
  hp : Hp W W.heap.size s d
theorem St.next {w W W' : World} {s : Hs} {d : Hd_} {u o e : Bool} {n b m : Int} (h : St w W s d u o e n b m) (hb : Below W.heap.size W W') : St w W' s d u o e n b m :=
  ⟨h.bel.trans (hb.mono h.bel.size), h.hb.next hb, h.xb.next hb, h.rb.next hb, h.hp.next hb⟩
theorem st_start {w W : World} {s : Hs} {d : Hd_} {u o e : Bool} {n b m : Int} (hp : Hp w w.heap.size s d) (h : W = ((w.alloc (.cells #[.slice s.w.a s.w.n s.w.c, .slice s.p.a s.p.n s.p.c, .slice (s.u 0).a (s.u 0).n (s.u 0).c, .slice (s.u 1).a (s.u 1).n (s.u 1).c, .slice (s.u 2).a (s.u 2).n (s.u 2).c, .slice s.c.a s.c.n s.c.c] 28)).alloc (.cells #[.bool u, .bool o, .bool e, .int .i64 n, .int .i64 b, .int .i64 m] 34)).alloc (.cells #[.slice none 0 0, .slice none 0 0, .slice none 0 0, .slice none 0 0, .slice none 0 0, .slice none 0 0] 28)) : St w W s d u o e n b m := by
  have b2 : Below w.heap.size w W := by rw [h]; exact (((Below.refl _ _).alloc (Nat.le_refl _) _).alloc (by simp) _).alloc (by simp; omega) _
  have bx : Below (w.alloc (.cells #[.slice s.w.a s.w.n s.w.c, .slice s.p.a s.p.n s.p.c, .slice (s.u 0).a (s.u 0).n (s.u 0).c, .slice (s.u 1).a (s.u 1).n (s.u 1).c, .slice (s.u 2).a (s.u 2).n (s.u 2).c, .slice s.c.a s.c.n s.c.c] 28)).heap.size (w.alloc (.cells #[.slice s.w.a s.w.n s.w.c, .slice s.p.a s.p.n s.p.c, .slice (s.u 0).a (s.u 0).n (s.u 0).c, .slice (s.u 1).a (s.u 1).n (s.u 1).c, .slice (s.u 2).a (s.u 2).n (s.u 2).c, .slice s.c.a s.c.n s.c.c] 28)) W := by rw [h]; exact ((Below.refl _ _).alloc (Nat.le_refl _) _).alloc (by simp) _
  have by' : Below ((w.alloc (.cells #[.slice s.w.a s.w.n s.w.c, .slice s.p.a s.p.n s.p.c, .slice (s.u 0).a (s.u 0).n (s.u 0).c, .slice (s.u 1).a (s.u 1).n (s.u 1).c, .slice (s.u 2).a (s.u 2).n (s.u 2).c, .slice s.c.a s.c.n s.c.c] 28)).alloc (.cells #[.bool u, .bool o, .bool e, .int .i64 n, .int .i64 b, .int .i64 m] 34)).heap.size ((w.alloc (.cells #[.slice s.w.a s.w.n s.w.c, .slice s.p.a s.p.n s.p.c, .slice (s.u 0).a (s.u 0).n (s.u 0).c, .slice (s.u 1).a (s.u 1).n (s.u 1).c, .slice (s.u 2).a (s.u 2).n (s.u 2).c, .slice s.c.a s.c.n s.c.c] 28)).alloc (.cells #[.bool u, .bool o, .bool e, .int .i64 n, .int .i64 b, .int .i64 m] 34)) W := by rw [h]; exact (Below.refl _ _).alloc (Nat.le_refl _) _
  have x := X6.new (w.alloc (.cells #[.slice s.w.a s.w.n s.w.c, .slice s.p.a s.p.n s.p.c, .slice (s.u 0).a (s.u 0).n (s.u 0).c, .slice (s.u 1).a (s.u 1).n (s.u 1).c, .slice (s.u 2).a (s.u 2).n (s.u 2).c, .slice s.c.a s.c.n s.c.c] 28)) u o e n b m 34
  rw [World.size_alloc] at x
  have z := HBox.new ((w.alloc (.cells #[.slice s.w.a s.w.n s.w.c, .slice s.p.a s.p.n s.p.c, .slice (s.u 0).a (s.u 0).n (s.u 0).c, .slice (s.u 1).a (s.u 1).n (s.u 1).c, .slice (s.u 2).a (s.u 2).n (s.u 2).c, .slice s.c.a s.c.n s.c.c] 28)).alloc (.cells #[.bool u, .bool o, .bool e, .int .i64 n, .int .i64 b, .int .i64 m] 34)) noHs 28
  rw [World.size_alloc, World.size_alloc] at z
  refine ⟨b2, (HBox.new w s 28).next bx, x.next by', ?_, hp.next b2⟩
  rw [h]
  exact ⟨z, fun j => by simp [go_sem]⟩
/-- Nothing is set, and it is told why. -/
def SetNo (w : World) (er : Int) (e : Ending) (w' : World) : Prop := e = .returned (.tuple #[(.agg #[.slice noHs.w.a noHs.w.n noHs.w.c, .slice noHs.p.a noHs.p.n noHs.p.c, .slice (noHs.u 0).a (noHs.u 0).n (noHs.u 0).c, .slice (noHs.u 1).a (noHs.u 1).n (noHs.u 1).c, .slice (noHs.u 2).a (noHs.u 2).n (noHs.u 2).c, .slice noHs.c.a noHs.c.n noHs.c.c]), .int .i64 er]) ∧ Below w.heap.size w w'
theorem set_no_end {w W : World} {s : Hs} {d : Hd_} {u o e : Bool} {n b m : Int} (h : St w W s d u o e n b m) (er : Int) (v0 v1 v2 v3 v4 v5 : Value) : SetNo w er (.returned (.tuple #[(.agg #[.slice noHs.w.a noHs.w.n noHs.w.c, .slice noHs.p.a noHs.p.n noHs.p.c, .slice (noHs.u 0).a (noHs.u 0).n (noHs.u 0).c, .slice (noHs.u 1).a (noHs.u 1).n (noHs.u 1).c, .slice (noHs.u 2).a (noHs.u 2).n (noHs.u 2).c, .slice noHs.c.a noHs.c.n noHs.c.c]), .int .i64 er])) (put6 W (w.heap.size + 2) v0 v1 v2 v3 v4 v5) :=
  ⟨rfl, below_put6 h.bel (by omega) _ _ _ _ _ _⟩
theorem res_set {W : World} {b : Nat} {er : Value} {tm : Array Value} {v0 v1 v2 v3 v4 v5 : Value} (ht : tm[6]? = some (.pointer (some ⟨b, 0, none⟩))) (h7 : tm[7]? = some er) (k0 : W.cell? ⟨b, 0, none⟩ = some v0) (k1 : W.cell? ⟨b, 1, none⟩ = some v1) (k2 : W.cell? ⟨b, 2, none⟩ = some v2) (k3 : W.cell? ⟨b, 3, none⟩ = some v3) (k4 : W.cell? ⟨b, 4, none⟩ = some v4) (k5 : W.cell? ⟨b, 5, none⟩ = some v5) :
    (results Tryd.f23 tm).run Tryd.prog W = .ok (.tuple #[.agg #[v0, v1, v2, v3, v4, v5], er]) W := by
  simp [results, Tryd.results23, go_sem, ht, h7, k0, k1, k2, k3, k4, k5]
/-- What Set leaves: the heap with another head, in memory of its own. -/
def SetOk (w : World) (s : Hs) (d' : Hd_) (e : Ending) (w' : World) : Prop :=
  ∃ t : Hs, e = .returned (.tuple #[(.agg #[.slice t.w.a t.w.n t.w.c, .slice t.p.a t.p.n t.p.c, .slice (t.u 0).a (t.u 0).n (t.u 0).c, .slice (t.u 1).a (t.u 1).n (t.u 1).c, .slice (t.u 2).a (t.u 2).n (t.u 2).c, .slice t.c.a t.c.n t.c.c]), .int .i64 0]) ∧ Hp w' w'.heap.size t d' ∧ Lens s t ∧ Below w.heap.size w w'
section
variable (s : Hs) (d : Hd_) (a : Int) (u o e : Bool) (n b m : Int) (w : World)
set_option maxHeartbeats 1000000 in
theorem set_none (hp : Hp w w.heap.size s d) (hz : Cl.Sz w) (hf : Fine s d) (er : Int) (he : headE s d a = er) (h0 : ¬ er = 0) : Calls Tryd.prog 23 #[(.agg #[.slice s.w.a s.w.n s.w.c, .slice s.p.a s.p.n s.p.c, .slice (s.u 0).a (s.u 0).n (s.u 0).c, .slice (s.u 1).a (s.u 1).n (s.u 1).c, .slice (s.u 2).a (s.u 2).n (s.u 2).c, .slice s.c.a s.c.n s.c.c]), .int .i64 a, (.agg #[.bool u, .bool o, .bool e, .int .i64 n, .int .i64 b, .int .i64 m])] w (SetNo w er) := by
  have HZ := Lib.hid hz
  have hz0 := hz.pos
  have HF := Lib.hid hf
  have HP := Lib.hid hp
  have d1 : (er != 0) = true := by simp [h0]
  have HE := Lib.hid he
  obtain ⟨z0, z1, z2, z3, z4, z5, hv⟩ := head_form s d a
  have HV := Lib.hid hv
  clear hp hz hf he h0 hv
  go_enter Tryd.func23, Tryd.ntmps23
  go_wp2_with fail
  obtain ⟨W1, hW1⟩ : ∃ W1, W1 = ((w.alloc (.cells #[.slice s.w.a s.w.n s.w.c, .slice s.p.a s.p.n s.p.c, .slice (s.u 0).a (s.u 0).n (s.u 0).c, .slice (s.u 1).a (s.u 1).n (s.u 1).c, .slice (s.u 2).a (s.u 2).n (s.u 2).c, .slice s.c.a s.c.n s.c.c] 28)).alloc (.cells #[.bool u, .bool o, .bool e, .int .i64 n, .int .i64 b, .int .i64 m] 34)).alloc (.cells #[.slice none 0 0, .slice none 0 0, .slice none 0 0, .slice none 0 0, .slice none 0 0, .slice none 0 0] 28) := ⟨_, rfl⟩
  have S1 := Lib.hid (st_start HP.out hW1)
  rw [← hW1]
  clear hW1
  refine (phead_any s d a W1 S1.out.hp (HZ.out.over S1.out.bel hz0) HF.out).mono ?_
  rw [HE.out, HV.out]
  rintro e' w1 ⟨rfl, hb1⟩
  have S2 := Lib.hid (S1.out.next hb1)
  have b9 := (Below.refl w1.heap.size w1).alloc (Nat.le_refl _) (.cells #[.bool z0, .bool z1, .bool z2, .int .i64 z3, .int .i64 z4, .int .i64 z5] 34)
  have S9 := Lib.hid (S2.out.next b9)
  clear hb1 b9 S1
  have y0 := S9.out.rb.free 0
  have y1 := S9.out.rb.free 1
  have y2 := S9.out.rb.free 2
  have y3 := S9.out.rb.free 3
  have y4 := S9.out.rb.free 4
  have y5 := S9.out.rb.free 5
  have x0 := S9.out.rb.box.c0
  have x1 := S9.out.rb.box.c1
  have x2 := S9.out.rb.box.c2
  have x3 := S9.out.rb.box.c3
  have x4 := S9.out.rb.box.c4
  have x5 := S9.out.rb.box.c5
  have xl := S9.out.rb.box.lt
  dsimp only [noHs, Ls.noSl] at x0 x1 x2 x3 x4 x5
  go_wp2
  refine bodyPost_ret (v := .tuple #[(.agg #[.slice noHs.w.a noHs.w.n noHs.w.c, .slice noHs.p.a noHs.p.n noHs.p.c, .slice (noHs.u 0).a (noHs.u 0).n (noHs.u 0).c, .slice (noHs.u 1).a (noHs.u 1).n (noHs.u 1).c, .slice (noHs.u 2).a (noHs.u 2).n (noHs.u 2).c, .slice noHs.c.a noHs.c.n noHs.c.c]), .int .i64 er]) ?_ rfl (set_no_end S9.out er _ _ _ _ _ _)
  obtain ⟨k0, k1, k2, k3, k4, k5⟩ := put6_at S9.out.rb (.slice none 0 0) (.slice none 0 0) (.slice none 0 0) (.slice none 0 0) (.slice none 0 0) (.slice none 0 0)
  exact res_set rfl rfl k0 k1 k2 k3 k4 k5
set_option maxHeartbeats 1000000 in
theorem set_bad (hp : Hp w w.heap.size s d) (hz : Cl.Sz w) (hf : Fine s d) (he : headE s d a = 0) (N : Int) (o' e' : Bool) (b' m' : Int) (hv : headV s d a = .agg #[.bool true, .bool o', .bool e', .int .i64 N, .int .i64 b', .int .i64 m']) (hx : Hd.mayB u o e n b m = false) : Calls Tryd.prog 23 #[(.agg #[.slice s.w.a s.w.n s.w.c, .slice s.p.a s.p.n s.p.c, .slice (s.u 0).a (s.u 0).n (s.u 0).c, .slice (s.u 1).a (s.u 1).n (s.u 1).c, .slice (s.u 2).a (s.u 2).n (s.u 2).c, .slice s.c.a s.c.n s.c.c]), .int .i64 a, (.agg #[.bool u, .bool o, .bool e, .int .i64 n, .int .i64 b, .int .i64 m])] w (SetNo w 1) := by
  have HZ := Lib.hid hz
  have hz0 := hz.pos
  have HF := Lib.hid hf
  have HP := Lib.hid hp
  have HE := Lib.hid he
  have HV := Lib.hid hv
  have HX := Lib.hid hx
  clear hp hz hf he hv hx
  go_enter Tryd.func23, Tryd.ntmps23
  go_wp2_with fail
  obtain ⟨W1, hW1⟩ : ∃ W1, W1 = ((w.alloc (.cells #[.slice s.w.a s.w.n s.w.c, .slice s.p.a s.p.n s.p.c, .slice (s.u 0).a (s.u 0).n (s.u 0).c, .slice (s.u 1).a (s.u 1).n (s.u 1).c, .slice (s.u 2).a (s.u 2).n (s.u 2).c, .slice s.c.a s.c.n s.c.c] 28)).alloc (.cells #[.bool u, .bool o, .bool e, .int .i64 n, .int .i64 b, .int .i64 m] 34)).alloc (.cells #[.slice none 0 0, .slice none 0 0, .slice none 0 0, .slice none 0 0, .slice none 0 0, .slice none 0 0] 28) := ⟨_, rfl⟩
  have S1 := Lib.hid (st_start HP.out hW1)
  rw [← hW1]
  clear hW1
  refine (phead_any s d a W1 S1.out.hp (HZ.out.over S1.out.bel hz0) HF.out).mono ?_
  rw [HE.out, HV.out]
  rintro e9 w1 ⟨rfl, hb1⟩
  have S2 := Lib.hid (S1.out.next hb1)
  have S3 := Lib.hid (S2.out.next ((Below.refl w1.heap.size w1).alloc (Nat.le_refl _) (.cells #[.bool true, .bool o', .bool e', .int .i64 N, .int .i64 b', .int .i64 m'] 34)))
  have W3 := Lib.hid (X6.new w1 true o' e' N b' m' 34)
  have x0 := S3.out.xb.c0
  have x1 := S3.out.xb.c1
  have x2 := S3.out.xb.c2
  have x3 := S3.out.xb.c3
  have x4 := S3.out.xb.c4
  have x5 := S3.out.xb.c5
  have xl := S3.out.xb.lt
  clear hb1 S1 S2
  go_wp2_with fail
  refine (Hd.pack_no _ _ _ _ _ _ _ HX.out).mono ?_
  rintro e9 w3 ⟨rfl, hb3⟩
  have S9 := Lib.hid (S3.out.next hb3)
  have W9 := Lib.hid (W3.out.next hb3)
  clear hb3 S3 W3 x0 x1 x2 x3 x4 x5 xl
  have y0 := S9.out.rb.free 0
  have y1 := S9.out.rb.free 1
  have y2 := S9.out.rb.free 2
  have y3 := S9.out.rb.free 3
  have y4 := S9.out.rb.free 4
  have y5 := S9.out.rb.free 5
  have x0 := S9.out.rb.box.c0
  have x1 := S9.out.rb.box.c1
  have x2 := S9.out.rb.box.c2
  have x3 := S9.out.rb.box.c3
  have x4 := S9.out.rb.box.c4
  have x5 := S9.out.rb.box.c5
  have xl := S9.out.rb.box.lt
  dsimp only [noHs, Ls.noSl] at x0 x1 x2 x3 x4 x5
  go_wp2
  refine bodyPost_ret (v := .tuple #[(.agg #[.slice noHs.w.a noHs.w.n noHs.w.c, .slice noHs.p.a noHs.p.n noHs.p.c, .slice (noHs.u 0).a (noHs.u 0).n (noHs.u 0).c, .slice (noHs.u 1).a (noHs.u 1).n (noHs.u 1).c, .slice (noHs.u 2).a (noHs.u 2).n (noHs.u 2).c, .slice noHs.c.a noHs.c.n noHs.c.c]), .int .i64 1]) ?_ rfl (set_no_end S9.out 1 _ _ _ _ _ _)
  obtain ⟨k0, k1, k2, k3, k4, k5⟩ := put6_at S9.out.rb (.slice none 0 0) (.slice none 0 0) (.slice none 0 0) (.slice none 0 0) (.slice none 0 0) (.slice none 0 0)
  exact res_set rfl rfl k0 k1 k2 k3 k4 k5
set_option maxHeartbeats 1000000 in
theorem set_other (hp : Hp w w.heap.size s d) (hz : Cl.Sz w) (hf : Fine s d) (he : headE s d a = 0) (N : Int) (o' e' : Bool) (b' m' : Int) (hv : headV s d a = .agg #[.bool true, .bool o', .bool e', .int .i64 N, .int .i64 b', .int .i64 m']) (hx : Hd.mayB u o e n b m = true) (ho : u = false ∨ (u = true ∧ ¬ n = N)) : Calls Tryd.prog 23 #[(.agg #[.slice s.w.a s.w.n s.w.c, .slice s.p.a s.p.n s.p.c, .slice (s.u 0).a (s.u 0).n (s.u 0).c, .slice (s.u 1).a (s.u 1).n (s.u 1).c, .slice (s.u 2).a (s.u 2).n (s.u 2).c, .slice s.c.a s.c.n s.c.c]), .int .i64 a, (.agg #[.bool u, .bool o, .bool e, .int .i64 n, .int .i64 b, .int .i64 m])] w (SetNo w 1) := by
  have HZ := Lib.hid hz
  have hz0 := hz.pos
  have HF := Lib.hid hf
  have HP := Lib.hid hp
  have HE := Lib.hid he
  have HV := Lib.hid hv
  have HX := Lib.hid hx
  clear hp hz hf he hv hx
  go_enter Tryd.func23, Tryd.ntmps23
  go_wp2_with fail
  obtain ⟨W1, hW1⟩ : ∃ W1, W1 = ((w.alloc (.cells #[.slice s.w.a s.w.n s.w.c, .slice s.p.a s.p.n s.p.c, .slice (s.u 0).a (s.u 0).n (s.u 0).c, .slice (s.u 1).a (s.u 1).n (s.u 1).c, .slice (s.u 2).a (s.u 2).n (s.u 2).c, .slice s.c.a s.c.n s.c.c] 28)).alloc (.cells #[.bool u, .bool o, .bool e, .int .i64 n, .int .i64 b, .int .i64 m] 34)).alloc (.cells #[.slice none 0 0, .slice none 0 0, .slice none 0 0, .slice none 0 0, .slice none 0 0, .slice none 0 0] 28) := ⟨_, rfl⟩
  have S1 := Lib.hid (st_start HP.out hW1)
  rw [← hW1]
  clear hW1
  refine (phead_any s d a W1 S1.out.hp (HZ.out.over S1.out.bel hz0) HF.out).mono ?_
  rw [HE.out, HV.out]
  rintro e9 w1 ⟨rfl, hb1⟩
  have S2 := Lib.hid (S1.out.next hb1)
  have S3 := Lib.hid (S2.out.next ((Below.refl w1.heap.size w1).alloc (Nat.le_refl _) (.cells #[.bool true, .bool o', .bool e', .int .i64 N, .int .i64 b', .int .i64 m'] 34)))
  have W3 := Lib.hid (X6.new w1 true o' e' N b' m' 34)
  have x0 := S3.out.xb.c0
  have x1 := S3.out.xb.c1
  have x2 := S3.out.xb.c2
  have x3 := S3.out.xb.c3
  have x4 := S3.out.xb.c4
  have x5 := S3.out.xb.c5
  have xl := S3.out.xb.lt
  clear hb1 S1 S2
  go_wp2_with fail
  refine (Hd.pack_yes _ _ _ _ _ _ _ HX.out).mono ?_
  rintro e9 w3 ⟨rfl, hb3⟩
  have S9 := Lib.hid (S3.out.next hb3)
  have W9 := Lib.hid (W3.out.next hb3)
  clear hb3 S3 W3 x0 x1 x2 x3 x4 x5 xl
  have r0 := S9.out.xb.c0
  have r3 := S9.out.xb.c3
  have rl := S9.out.xb.lt
  have v3 := W9.out.c3
  have vl := W9.out.lt
  rcases ho with rfl | ⟨rfl, hn⟩
  · skip
    have y0 := S9.out.rb.free 0
    have y1 := S9.out.rb.free 1
    have y2 := S9.out.rb.free 2
    have y3 := S9.out.rb.free 3
    have y4 := S9.out.rb.free 4
    have y5 := S9.out.rb.free 5
    have x0 := S9.out.rb.box.c0
    have x1 := S9.out.rb.box.c1
    have x2 := S9.out.rb.box.c2
    have x3 := S9.out.rb.box.c3
    have x4 := S9.out.rb.box.c4
    have x5 := S9.out.rb.box.c5
    have xl := S9.out.rb.box.lt
    dsimp only [noHs, Ls.noSl] at x0 x1 x2 x3 x4 x5
    go_wp2
    refine bodyPost_ret (v := .tuple #[(.agg #[.slice noHs.w.a noHs.w.n noHs.w.c, .slice noHs.p.a noHs.p.n noHs.p.c, .slice (noHs.u 0).a (noHs.u 0).n (noHs.u 0).c, .slice (noHs.u 1).a (noHs.u 1).n (noHs.u 1).c, .slice (noHs.u 2).a (noHs.u 2).n (noHs.u 2).c, .slice noHs.c.a noHs.c.n noHs.c.c]), .int .i64 1]) ?_ rfl (set_no_end S9.out 1 _ _ _ _ _ _)
    obtain ⟨k0, k1, k2, k3, k4, k5⟩ := put6_at S9.out.rb (.slice none 0 0) (.slice none 0 0) (.slice none 0 0) (.slice none 0 0) (.slice none 0 0) (.slice none 0 0)
    exact res_set rfl rfl k0 k1 k2 k3 k4 k5
  · have dn : (n != N) = true := by simp [hn]
    clear hn
    have y0 := S9.out.rb.free 0
    have y1 := S9.out.rb.free 1
    have y2 := S9.out.rb.free 2
    have y3 := S9.out.rb.free 3
    have y4 := S9.out.rb.free 4
    have y5 := S9.out.rb.free 5
    have x0 := S9.out.rb.box.c0
    have x1 := S9.out.rb.box.c1
    have x2 := S9.out.rb.box.c2
    have x3 := S9.out.rb.box.c3
    have x4 := S9.out.rb.box.c4
    have x5 := S9.out.rb.box.c5
    have xl := S9.out.rb.box.lt
    dsimp only [noHs, Ls.noSl] at x0 x1 x2 x3 x4 x5
    go_wp2
    refine bodyPost_ret (v := .tuple #[(.agg #[.slice noHs.w.a noHs.w.n noHs.w.c, .slice noHs.p.a noHs.p.n noHs.p.c, .slice (noHs.u 0).a (noHs.u 0).n (noHs.u 0).c, .slice (noHs.u 1).a (noHs.u 1).n (noHs.u 1).c, .slice (noHs.u 2).a (noHs.u 2).n (noHs.u 2).c, .slice noHs.c.a noHs.c.n noHs.c.c]), .int .i64 1]) ?_ rfl (set_no_end S9.out 1 _ _ _ _ _ _)
    obtain ⟨k0, k1, k2, k3, k4, k5⟩ := put6_at S9.out.rb (.slice none 0 0) (.slice none 0 0) (.slice none 0 0) (.slice none 0 0) (.slice none 0 0) (.slice none 0 0)
    exact res_set rfl rfl k0 k1 k2 k3 k4 k5
end
end Go.Proofs.YtodpciodongajaaDoor
