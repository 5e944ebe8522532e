/-
  The reference's Take, where an error is told of what is handed in.
-/
import Derived.Test.YtdmclfolooiccaaGreatDoorAAlRefW
import Derived.Test.YtdmclfolooiccaaGreatDoorHpAR
import Derived.Test.YtdmclfolooiccaaGreatDoorHpAI
namespace Go.Proofs.YtdmclfolooiccaaGreatDoor.Rp
open Go.Proofs.YtdmclfolooiccaaGreatDoor
open Go.RowKit
set_option maxRecDepth 100000

/-- What a walk through the reference's Take has in memory, besides what it makes of heap and lists. -/
structure TkR (w W : World) (s : Hs) (d : Hd_) (u : Nat → Ls.Sl) (G : Nat → List Int) (us o e : Bool) (N b m : Int) : Prop where
  ts : TkS w W s d u G us o e N b m
  n6 : Box6 W (w.heap.size + 5) noHs
  n3 : Ls.Box3 W (w.heap.size + 6) Ls.noSl
section
variable {w W W' : World} {s : Hs} {d : Hd_} {u : Nat → Ls.Sl} {G : Nat → List Int} {us o e : Bool} {N b m : Int}
theorem TkR.size (h : TkR w W s d u G us o e N b m) : w.heap.size + 7 ≤ W.heap.size := by have := h.n3.lt; omega
theorem TkR.below (h : TkR w W s d u G us o e N b m) {B : Nat} (hb : Below B W W') (hB : w.heap.size + 7 ≤ B) : TkR w W' s d u G us o e N b m :=
  ⟨h.ts.below hb (by omega), h.n6.same (hb.block _ (by omega)) hb.size, h.n3.same (hb.block _ (by omega)) hb.size⟩
theorem TkR.next (h : TkR w W s d u G us o e N b m) (hb : Below W.heap.size W W') : TkR w W' s d u G us o e N b m := h.below hb h.size
def tk7 (w : World) (s : Hs) (u : Nat → Ls.Sl) (us o e : Bool) (N b m : Int) : World := ((((((w.alloc (.cells #[.slice s.w.a s.w.n s.w.c, .slice s.p.a s.p.n s.p.c, .slice (s.u 0).a (s.u 0).n (s.u 0).c, .slice (s.u 1).a (s.u 1).n (s.u 1).c, .slice (s.u 2).a (s.u 2).n (s.u 2).c, .slice s.c.a s.c.n s.c.c] 28)).alloc (.cells #[.slice (u 0).a (u 0).n (u 0).c, .slice (u 1).a (u 1).n (u 1).c, .slice (u 2).a (u 2).n (u 2).c] 25)).alloc (.cells #[.bool us, .bool o, .bool e, .int .i64 N, .int .i64 b, .int .i64 m] 30)).alloc (.cells #[.slice none 0 0, .slice none 0 0, .slice none 0 0, .slice none 0 0, .slice none 0 0, .slice none 0 0] 28)).alloc (.cells #[.slice none 0 0, .slice none 0 0, .slice none 0 0] 25)).alloc (.cells #[.slice none 0 0, .slice none 0 0, .slice none 0 0, .slice none 0 0, .slice none 0 0, .slice none 0 0] 28)).alloc (.cells #[.slice none 0 0, .slice none 0 0, .slice none 0 0] 25)
theorem tkr_start (hp : Hp w w.heap.size s d) (l3 : Ls.L3 w w.heap.size u G) (h : W = ((((((w.alloc (.cells #[.slice s.w.a s.w.n s.w.c, .slice s.p.a s.p.n s.p.c, .slice (s.u 0).a (s.u 0).n (s.u 0).c, .slice (s.u 1).a (s.u 1).n (s.u 1).c, .slice (s.u 2).a (s.u 2).n (s.u 2).c, .slice s.c.a s.c.n s.c.c] 28)).alloc (.cells #[.slice (u 0).a (u 0).n (u 0).c, .slice (u 1).a (u 1).n (u 1).c, .slice (u 2).a (u 2).n (u 2).c] 25)).alloc (.cells #[.bool us, .bool o, .bool e, .int .i64 N, .int .i64 b, .int .i64 m] 30)).alloc (.cells #[.slice none 0 0, .slice none 0 0, .slice none 0 0, .slice none 0 0, .slice none 0 0, .slice none 0 0] 28)).alloc (.cells #[.slice none 0 0, .slice none 0 0, .slice none 0 0] 25)).alloc (.cells #[.slice none 0 0, .slice none 0 0, .slice none 0 0, .slice none 0 0, .slice none 0 0, .slice none 0 0] 28)).alloc (.cells #[.slice none 0 0, .slice none 0 0, .slice none 0 0] 25)) : TkR w W s d u G us o e N b m := by
  obtain ⟨W5, h5⟩ : ∃ W5, W5 = ((((w.alloc (.cells #[.slice s.w.a s.w.n s.w.c, .slice s.p.a s.p.n s.p.c, .slice (s.u 0).a (s.u 0).n (s.u 0).c, .slice (s.u 1).a (s.u 1).n (s.u 1).c, .slice (s.u 2).a (s.u 2).n (s.u 2).c, .slice s.c.a s.c.n s.c.c] 28)).alloc (.cells #[.slice (u 0).a (u 0).n (u 0).c, .slice (u 1).a (u 1).n (u 1).c, .slice (u 2).a (u 2).n (u 2).c] 25)).alloc (.cells #[.bool us, .bool o, .bool e, .int .i64 N, .int .i64 b, .int .i64 m] 30)).alloc (.cells #[.slice none 0 0, .slice none 0 0, .slice none 0 0, .slice none 0 0, .slice none 0 0, .slice none 0 0] 28)).alloc (.cells #[.slice none 0 0, .slice none 0 0, .slice none 0 0] 25) := ⟨_, rfl⟩
  obtain ⟨W6, h6⟩ : ∃ W6, W6 = W5.alloc (.cells #[.slice none 0 0, .slice none 0 0, .slice none 0 0, .slice none 0 0, .slice none 0 0, .slice none 0 0] 28) := ⟨_, rfl⟩
  have T5 := tk_start (us := us) hp l3 h5
  have z5 : W5.heap.size = w.heap.size + 5 := by rw [h5]; simp
  rw [← h5, ← h6] at h
  have z6 : W6.heap.size = w.heap.size + 6 := by rw [h6]; simp [z5]
  have b6 : Below W5.heap.size W5 W6 := by rw [h6]; exact (Below.refl _ _).alloc (Nat.le_refl _) _
  have b7 : Below W6.heap.size W6 W := by rw [h]; exact (Below.refl _ _).alloc (Nat.le_refl _) _
  have x6 : Box6 W6 (w.heap.size + 5) noHs := by rw [h6, ← z5]; exact ⟨HBox.new W5 noHs _, fun j => by simp [go_sem]⟩
  have x7 : Ls.Box3 W (w.heap.size + 6) Ls.noSl := by rw [h, ← z6]; exact Ls.Box3.new W6 Ls.noSl _
  exact ⟨(T5.next b6).next b7, x6.next b7, x7⟩
theorem res_rtake {W : World} {b6 b3 : Nat} {tm : Array Value} {v0 v1 v2 v3 v4 v5 y0 y1 y2 va ve : Value} (t6 : tm[6]? = some (.pointer (some ⟨b6, 0, none⟩))) (t7 : tm[7]? = some (.pointer (some ⟨b3, 0, none⟩))) (t8 : tm[8]? = some va) (t9 : tm[9]? = some ve)
    (k0 : W.cell? ⟨b6, 0, none⟩ = some v0) (k1 : W.cell? ⟨b6, 1, none⟩ = some v1) (k2 : W.cell? ⟨b6, 2, none⟩ = some v2) (k3 : W.cell? ⟨b6, 3, none⟩ = some v3) (k4 : W.cell? ⟨b6, 4, none⟩ = some v4) (k5 : W.cell? ⟨b6, 5, none⟩ = some v5) (j0 : W.cell? ⟨b3, 0, none⟩ = some y0) (j1 : W.cell? ⟨b3, 1, none⟩ = some y1) (j2 : W.cell? ⟨b3, 2, none⟩ = some y2) :
    (results Tryz.f8 tm).run Tryz.prog W = .ok (.tuple #[.agg #[v0, v1, v2, v3, v4, v5], .agg #[y0, y1, y2], va, ve]) W := by
  simp [results, Tryz.results8, go_sem, t6, t7, t8, t9, k0, k1, k2, k3, k4, k5, j0, j1, j2]
theorem rtake_res_drew {X : World} {d' : Hd_} {G' : Nat → List Int} (h : TkS w W s d u G us o e N b m) {t : Hs} {v : Nat → Ls.Sl} (hp : Hp W W.heap.size t d') (l3 : Ls.L3 W W.heap.size v G') {tm : Array Value} {va ve : Value} (t6 : tm[6]? = some (.pointer (some ⟨w.heap.size + 3, 0, none⟩))) (t7 : tm[7]? = some (.pointer (some ⟨w.heap.size + 4, 0, none⟩))) (t8 : tm[8]? = some va) (t9 : tm[9]? = some ve) (hX : X = (Ls.put3 (put6 W (w.heap.size + 3) (.slice t.w.a t.w.n t.w.c) (.slice t.p.a t.p.n t.p.c) (.slice (t.u 0).a (t.u 0).n (t.u 0).c) (.slice (t.u 1).a (t.u 1).n (t.u 1).c) (.slice (t.u 2).a (t.u 2).n (t.u 2).c) (.slice t.c.a t.c.n t.c.c)) (w.heap.size + 4) v)) :
    (results Tryz.f8 tm).run Tryz.prog X.drew = .ok (.tuple #[(.agg #[.slice t.w.a t.w.n t.w.c, .slice t.p.a t.p.n t.p.c, .slice (t.u 0).a (t.u 0).n (t.u 0).c, .slice (t.u 1).a (t.u 1).n (t.u 1).c, .slice (t.u 2).a (t.u 2).n (t.u 2).c, .slice t.c.a t.c.n t.c.c]), (.agg #[.slice (v 0).a (v 0).n (v 0).c, .slice (v 1).a (v 1).n (v 1).c, .slice (v 2).a (v 2).n (v 2).c]), va, ve]) X.drew := by
  have h1 := take_stored h hp l3
  rw [← hX] at h1
  have hb : Below X.heap.size X X.drew := below_drawn' (Below.refl _ _) 1
  have h6 := h1.2.2.2.1.next hb
  have h3 := h1.2.2.2.2.next hb
  exact res_rtake t6 t7 t8 t9 h6.box.c0 h6.box.c1 h6.box.c2 h6.box.c3 h6.box.c4 h6.box.c5 (h3.cell 0 (by decide)) (h3.cell 1 (by decide)) (h3.cell 2 (by decide))
theorem l3_none (W : World) : Ls.L3 W W.heap.size Ls.noSl Ls.noLists := Ls.L3.none_ _ _
end
section
variable (s : Hs) (u : Nat → Ls.Sl) (d : Hd_) (G : Nat → List Int) (us o e : Bool) (N b m : Int) (w : World)
theorem rtake_mayc (hf : FineT s d u G) : ∀ W, TkR w W s d u G us o e N b m → Calls Tryz.prog 24 #[(.agg #[.slice s.w.a s.w.n s.w.c, .slice s.p.a s.p.n s.p.c, .slice (s.u 0).a (s.u 0).n (s.u 0).c, .slice (s.u 1).a (s.u 1).n (s.u 1).c, .slice (s.u 2).a (s.u 2).n (s.u 2).c, .slice s.c.a s.c.n s.c.c]), .slice (some ⟨W.heap.size, 0, none⟩) 1 1] (W.alloc (.cells #[.slice (u 0).a (u 0).n (u 0).c, .slice (u 1).a (u 1).n (u 1).c, .slice (u 2).a (u 2).n (u 2).c] 25)) fun e w' => e = .returned (.bool (mayH s d 1 (fun _ => G))) ∧ Below (W.alloc (.cells #[.slice (u 0).a (u 0).n (u 0).c, .slice (u 1).a (u 1).n (u 1).c, .slice (u 2).a (u 2).n (u 2).c] 25)).heap.size (W.alloc (.cells #[.slice (u 0).a (u 0).n (u 0).c, .slice (u 1).a (u 1).n (u 1).c, .slice (u 2).a (u 2).n (u 2).c] 25)) w' := fun W h => by
  have hb := (Below.refl W.heap.size W).alloc (Nat.le_refl _) (.cells #[.slice (u 0).a (u 0).n (u 0).c, .slice (u 1).a (u 1).n (u 1).c, .slice (u 2).a (u 2).n (u 2).c] 25)
  have h2 := (h.next hb).ts
  refine rmayH_any s d (some ⟨W.heap.size, 0, none⟩) 1 1 (fun _ => u) (fun _ => G) (W.alloc (.cells #[.slice (u 0).a (u 0).n (u 0).c, .slice (u 1).a (u 1).n (u 1).c, .slice (u 2).a (u 2).n (u 2).c] 25)) (h2.hp.more h2.bel.size) (lrow_of (own_one W u) (by simp) (fun _ _ => h2.l3.more h2.bel.size)) (by decide) hf.fine.wn ?_ hf.fine.hv hf.all
  have := hf.fine.pn
  omega
set_option maxHeartbeats 1000000 in
theorem rtake_may1 (hp : Hp w w.heap.size s d) (l3 : Ls.L3 w w.heap.size u G) (hf : FineT s d u G) (hm : mayH s d 1 (fun _ => G) = false) (hh : Hd.mayB us o e N b m = true) : Calls Tryz.prog 8 #[(.agg #[.slice s.w.a s.w.n s.w.c, .slice s.p.a s.p.n s.p.c, .slice (s.u 0).a (s.u 0).n (s.u 0).c, .slice (s.u 1).a (s.u 1).n (s.u 1).c, .slice (s.u 2).a (s.u 2).n (s.u 2).c, .slice s.c.a s.c.n s.c.c]), (.agg #[.slice (u 0).a (u 0).n (u 0).c, .slice (u 1).a (u 1).n (u 1).c, .slice (u 2).a (u 2).n (u 2).c]), .agg #[.bool us, .bool o, .bool e, .int .i64 N, .int .i64 b, .int .i64 m]] w (TakeOut w (tkNo 1)) := by
  have HP := Lib.hid hp
  have HL := Lib.hid l3
  have HM := Lib.hid (rtake_mayc s u d G us o e N b m w hf)
  rw [hm] at HM
  have HH := Lib.hid hh
  clear hp l3 hf hm hh
  go_enter Tryz.func8, Tryz.ntmps8
  go_wp2_with fail
  obtain ⟨W5, hW5⟩ : ∃ W5, W5 = tk7 w s u us o e N b m := ⟨_, rfl⟩
  unfold tk7 at hW5
  have T5 := Lib.hid (tkr_start (us := us) HP.out HL.out hW5)
  have hz5 : w.heap.size + 1 + 1 + 1 + 1 + 1 + 1 + 1 = W5.heap.size := by rw [hW5]; simp
  rw [← hW5, hz5]
  clear hW5 hz5
  refine (HM.out W5 T5.out).mono ?_
  rintro e9 w6 ⟨rfl, hb6⟩
  have T6 := Lib.hid ((T5.out.next ((Below.refl _ _).alloc (Nat.le_refl _) (.cells #[.slice (u 0).a (u 0).n (u 0).c, .slice (u 1).a (u 1).n (u 1).c, .slice (u 2).a (u 2).n (u 2).c] 25))).next hb6)
  clear hb6 T5 HM
  have x0 := T6.out.ts.xb.c0
  have x1 := T6.out.ts.xb.c1
  have x2 := T6.out.ts.xb.c2
  have x3 := T6.out.ts.xb.c3
  have x4 := T6.out.ts.xb.c4
  have x5 := T6.out.ts.xb.c5
  have xl := T6.out.ts.xb.lt
  go_wp2_with fail
  refine (Hd.rmay_yes us o e N b m w6 HH.out).mono ?_
  rintro e9 w7 ⟨rfl, hb7⟩
  have T7 := Lib.hid (T6.out.next hb7)
  clear x0 x1 x2 x3 x4 x5 xl
  clear hb7 T6
  have x0 := T7.out.ts.xb.c0
  have x1 := T7.out.ts.xb.c1
  have x2 := T7.out.ts.xb.c2
  have x3 := T7.out.ts.xb.c3
  have x4 := T7.out.ts.xb.c4
  have x5 := T7.out.ts.xb.c5
  have xl := T7.out.ts.xb.lt
  have g0 := T7.out.ts.r6.free 0
  have g1 := T7.out.ts.r6.free 1
  have g2 := T7.out.ts.r6.free 2
  have g3 := T7.out.ts.r6.free 3
  have g4 := T7.out.ts.r6.free 4
  have g5 := T7.out.ts.r6.free 5
  have y0 := T7.out.ts.r6.box.c0
  have y1 := T7.out.ts.r6.box.c1
  have y2 := T7.out.ts.r6.box.c2
  have y3 := T7.out.ts.r6.box.c3
  have y4 := T7.out.ts.r6.box.c4
  have y5 := T7.out.ts.r6.box.c5
  have yl := T7.out.ts.r6.box.lt
  have i0 := T7.out.ts.r3.cell 0 (by decide)
  have i1 := T7.out.ts.r3.cell 1 (by decide)
  have i2 := T7.out.ts.r3.cell 2 (by decide)
  have j0 := T7.out.ts.r3.free 0
  have j1 := T7.out.ts.r3.free 1
  have j2 := T7.out.ts.r3.free 2
  have il := T7.out.ts.r3.lt
  have n0 := T7.out.n6.box.c0
  have n1 := T7.out.n6.box.c1
  have n2 := T7.out.n6.box.c2
  have n3 := T7.out.n6.box.c3
  have n4 := T7.out.n6.box.c4
  have n5 := T7.out.n6.box.c5
  have nl := T7.out.n6.box.lt
  have k0 := T7.out.n3.cell 0 (by decide)
  have k1 := T7.out.n3.cell 1 (by decide)
  have k2 := T7.out.n3.cell 2 (by decide)
  have kl := T7.out.n3.lt
  dsimp only [noHs, Ls.noSl] at n0 n1 n2 n3 n4 n5 k0 k1 k2
  go_wp2
  go_region
  all_goals go_wp2
  all_goals exact bodyPost_ret (v := .tuple #[(.agg #[.slice noHs.w.a noHs.w.n noHs.w.c, .slice noHs.p.a noHs.p.n noHs.p.c, .slice (noHs.u 0).a (noHs.u 0).n (noHs.u 0).c, .slice (noHs.u 1).a (noHs.u 1).n (noHs.u 1).c, .slice (noHs.u 2).a (noHs.u 2).n (noHs.u 2).c, .slice noHs.c.a noHs.c.n noHs.c.c]), (.agg #[.slice (Ls.noSl 0).a (Ls.noSl 0).n (Ls.noSl 0).c, .slice (Ls.noSl 1).a (Ls.noSl 1).n (Ls.noSl 1).c, .slice (Ls.noSl 2).a (Ls.noSl 2).n (Ls.noSl 2).c]), .int .i64 0, .int .i64 1]) (rtake_res_drew T7.out.ts (t := noHs) (v := Ls.noSl) (hp_none w7) (l3_none w7) rfl rfl rfl rfl rfl) rfl (take_yes_drew T7.out.ts (tkNo 1) (t := noHs) (v := Ls.noSl) (hp_none w7) (l3_none w7) ⟨rfl, rfl, rfl⟩ rfl)
set_option maxHeartbeats 1000000 in
theorem rtake_may0 (hp : Hp w w.heap.size s d) (l3 : Ls.L3 w w.heap.size u G) (hf : FineT s d u G) (hm : mayH s d 1 (fun _ => G) = false) (hh : Hd.mayB us o e N b m = false) : Calls Tryz.prog 8 #[(.agg #[.slice s.w.a s.w.n s.w.c, .slice s.p.a s.p.n s.p.c, .slice (s.u 0).a (s.u 0).n (s.u 0).c, .slice (s.u 1).a (s.u 1).n (s.u 1).c, .slice (s.u 2).a (s.u 2).n (s.u 2).c, .slice s.c.a s.c.n s.c.c]), (.agg #[.slice (u 0).a (u 0).n (u 0).c, .slice (u 1).a (u 1).n (u 1).c, .slice (u 2).a (u 2).n (u 2).c]), .agg #[.bool us, .bool o, .bool e, .int .i64 N, .int .i64 b, .int .i64 m]] w (TakeOut w (tkNo 1)) := by
  have HP := Lib.hid hp
  have HL := Lib.hid l3
  have HM := Lib.hid (rtake_mayc s u d G us o e N b m w hf)
  rw [hm] at HM
  have HH := Lib.hid hh
  clear hp l3 hf hm hh
  go_enter Tryz.func8, Tryz.ntmps8
  go_wp2_with fail
  obtain ⟨W5, hW5⟩ : ∃ W5, W5 = tk7 w s u us o e N b m := ⟨_, rfl⟩
  unfold tk7 at hW5
  have T5 := Lib.hid (tkr_start (us := us) HP.out HL.out hW5)
  have hz5 : w.heap.size + 1 + 1 + 1 + 1 + 1 + 1 + 1 = W5.heap.size := by rw [hW5]; simp
  rw [← hW5, hz5]
  clear hW5 hz5
  refine (HM.out W5 T5.out).mono ?_
  rintro e9 w6 ⟨rfl, hb6⟩
  have T6 := Lib.hid ((T5.out.next ((Below.refl _ _).alloc (Nat.le_refl _) (.cells #[.slice (u 0).a (u 0).n (u 0).c, .slice (u 1).a (u 1).n (u 1).c, .slice (u 2).a (u 2).n (u 2).c] 25))).next hb6)
  clear hb6 T5 HM
  have x0 := T6.out.ts.xb.c0
  have x1 := T6.out.ts.xb.c1
  have x2 := T6.out.ts.xb.c2
  have x3 := T6.out.ts.xb.c3
  have x4 := T6.out.ts.xb.c4
  have x5 := T6.out.ts.xb.c5
  have xl := T6.out.ts.xb.lt
  go_wp2_with fail
  refine (Hd.rmay_no us o e N b m w6 HH.out).mono ?_
  rintro e9 w7 ⟨rfl, hb7⟩
  have T7 := Lib.hid (T6.out.next hb7)
  clear x0 x1 x2 x3 x4 x5 xl
  clear hb7 T6
  have x0 := T7.out.ts.xb.c0
  have x1 := T7.out.ts.xb.c1
  have x2 := T7.out.ts.xb.c2
  have x3 := T7.out.ts.xb.c3
  have x4 := T7.out.ts.xb.c4
  have x5 := T7.out.ts.xb.c5
  have xl := T7.out.ts.xb.lt
  have g0 := T7.out.ts.r6.free 0
  have g1 := T7.out.ts.r6.free 1
  have g2 := T7.out.ts.r6.free 2
  have g3 := T7.out.ts.r6.free 3
  have g4 := T7.out.ts.r6.free 4
  have g5 := T7.out.ts.r6.free 5
  have y0 := T7.out.ts.r6.box.c0
  have y1 := T7.out.ts.r6.box.c1
  have y2 := T7.out.ts.r6.box.c2
  have y3 := T7.out.ts.r6.box.c3
  have y4 := T7.out.ts.r6.box.c4
  have y5 := T7.out.ts.r6.box.c5
  have yl := T7.out.ts.r6.box.lt
  have i0 := T7.out.ts.r3.cell 0 (by decide)
  have i1 := T7.out.ts.r3.cell 1 (by decide)
  have i2 := T7.out.ts.r3.cell 2 (by decide)
  have j0 := T7.out.ts.r3.free 0
  have j1 := T7.out.ts.r3.free 1
  have j2 := T7.out.ts.r3.free 2
  have il := T7.out.ts.r3.lt
  have n0 := T7.out.n6.box.c0
  have n1 := T7.out.n6.box.c1
  have n2 := T7.out.n6.box.c2
  have n3 := T7.out.n6.box.c3
  have n4 := T7.out.n6.box.c4
  have n5 := T7.out.n6.box.c5
  have nl := T7.out.n6.box.lt
  have k0 := T7.out.n3.cell 0 (by decide)
  have k1 := T7.out.n3.cell 1 (by decide)
  have k2 := T7.out.n3.cell 2 (by decide)
  have kl := T7.out.n3.lt
  dsimp only [noHs, Ls.noSl] at n0 n1 n2 n3 n4 n5 k0 k1 k2
  go_wp2
  go_region
  all_goals go_wp2
  all_goals exact bodyPost_ret (v := .tuple #[(.agg #[.slice noHs.w.a noHs.w.n noHs.w.c, .slice noHs.p.a noHs.p.n noHs.p.c, .slice (noHs.u 0).a (noHs.u 0).n (noHs.u 0).c, .slice (noHs.u 1).a (noHs.u 1).n (noHs.u 1).c, .slice (noHs.u 2).a (noHs.u 2).n (noHs.u 2).c, .slice noHs.c.a noHs.c.n noHs.c.c]), (.agg #[.slice (Ls.noSl 0).a (Ls.noSl 0).n (Ls.noSl 0).c, .slice (Ls.noSl 1).a (Ls.noSl 1).n (Ls.noSl 1).c, .slice (Ls.noSl 2).a (Ls.noSl 2).n (Ls.noSl 2).c]), .int .i64 0, .int .i64 1]) (rtake_res_drew T7.out.ts (t := noHs) (v := Ls.noSl) (hp_none w7) (l3_none w7) rfl rfl rfl rfl rfl) rfl (take_yes_drew T7.out.ts (tkNo 1) (t := noHs) (v := Ls.noSl) (hp_none w7) (l3_none w7) ⟨rfl, rfl, rfl⟩ rfl)
set_option maxHeartbeats 1000000 in
theorem rtake_head (hp : Hp w w.heap.size s d) (l3 : Ls.L3 w w.heap.size u G) (hf : FineT s d u G) (hm : mayH s d 1 (fun _ => G) = true) (hh : Hd.mayB us o e N b m = false) : Calls Tryz.prog 8 #[(.agg #[.slice s.w.a s.w.n s.w.c, .slice s.p.a s.p.n s.p.c, .slice (s.u 0).a (s.u 0).n (s.u 0).c, .slice (s.u 1).a (s.u 1).n (s.u 1).c, .slice (s.u 2).a (s.u 2).n (s.u 2).c, .slice s.c.a s.c.n s.c.c]), (.agg #[.slice (u 0).a (u 0).n (u 0).c, .slice (u 1).a (u 1).n (u 1).c, .slice (u 2).a (u 2).n (u 2).c]), .agg #[.bool us, .bool o, .bool e, .int .i64 N, .int .i64 b, .int .i64 m]] w (TakeOut w (tkNo 1)) := by
  have HP := Lib.hid hp
  have HL := Lib.hid l3
  have HM := Lib.hid (rtake_mayc s u d G us o e N b m w hf)
  rw [hm] at HM
  have HH := Lib.hid hh
  clear hp l3 hf hm hh
  go_enter Tryz.func8, Tryz.ntmps8
  go_wp2_with fail
  obtain ⟨W5, hW5⟩ : ∃ W5, W5 = tk7 w s u us o e N b m := ⟨_, rfl⟩
  unfold tk7 at hW5
  have T5 := Lib.hid (tkr_start (us := us) HP.out HL.out hW5)
  have hz5 : w.heap.size + 1 + 1 + 1 + 1 + 1 + 1 + 1 = W5.heap.size := by rw [hW5]; simp
  rw [← hW5, hz5]
  clear hW5 hz5
  refine (HM.out W5 T5.out).mono ?_
  rintro e9 w6 ⟨rfl, hb6⟩
  have T6 := Lib.hid ((T5.out.next ((Below.refl _ _).alloc (Nat.le_refl _) (.cells #[.slice (u 0).a (u 0).n (u 0).c, .slice (u 1).a (u 1).n (u 1).c, .slice (u 2).a (u 2).n (u 2).c] 25))).next hb6)
  clear hb6 T5 HM
  have x0 := T6.out.ts.xb.c0
  have x1 := T6.out.ts.xb.c1
  have x2 := T6.out.ts.xb.c2
  have x3 := T6.out.ts.xb.c3
  have x4 := T6.out.ts.xb.c4
  have x5 := T6.out.ts.xb.c5
  have xl := T6.out.ts.xb.lt
  go_wp2_with fail
  refine (Hd.rmay_no us o e N b m w6 HH.out).mono ?_
  rintro e9 w7 ⟨rfl, hb7⟩
  have T7 := Lib.hid (T6.out.next hb7)
  clear x0 x1 x2 x3 x4 x5 xl
  clear hb7 T6
  have x0 := T7.out.ts.xb.c0
  have x1 := T7.out.ts.xb.c1
  have x2 := T7.out.ts.xb.c2
  have x3 := T7.out.ts.xb.c3
  have x4 := T7.out.ts.xb.c4
  have x5 := T7.out.ts.xb.c5
  have xl := T7.out.ts.xb.lt
  have g0 := T7.out.ts.r6.free 0
  have g1 := T7.out.ts.r6.free 1
  have g2 := T7.out.ts.r6.free 2
  have g3 := T7.out.ts.r6.free 3
  have g4 := T7.out.ts.r6.free 4
  have g5 := T7.out.ts.r6.free 5
  have y0 := T7.out.ts.r6.box.c0
  have y1 := T7.out.ts.r6.box.c1
  have y2 := T7.out.ts.r6.box.c2
  have y3 := T7.out.ts.r6.box.c3
  have y4 := T7.out.ts.r6.box.c4
  have y5 := T7.out.ts.r6.box.c5
  have yl := T7.out.ts.r6.box.lt
  have i0 := T7.out.ts.r3.cell 0 (by decide)
  have i1 := T7.out.ts.r3.cell 1 (by decide)
  have i2 := T7.out.ts.r3.cell 2 (by decide)
  have j0 := T7.out.ts.r3.free 0
  have j1 := T7.out.ts.r3.free 1
  have j2 := T7.out.ts.r3.free 2
  have il := T7.out.ts.r3.lt
  have n0 := T7.out.n6.box.c0
  have n1 := T7.out.n6.box.c1
  have n2 := T7.out.n6.box.c2
  have n3 := T7.out.n6.box.c3
  have n4 := T7.out.n6.box.c4
  have n5 := T7.out.n6.box.c5
  have nl := T7.out.n6.box.lt
  have k0 := T7.out.n3.cell 0 (by decide)
  have k1 := T7.out.n3.cell 1 (by decide)
  have k2 := T7.out.n3.cell 2 (by decide)
  have kl := T7.out.n3.lt
  dsimp only [noHs, Ls.noSl] at n0 n1 n2 n3 n4 n5 k0 k1 k2
  go_wp2
  go_region
  all_goals go_wp2
  all_goals exact bodyPost_ret (v := .tuple #[(.agg #[.slice noHs.w.a noHs.w.n noHs.w.c, .slice noHs.p.a noHs.p.n noHs.p.c, .slice (noHs.u 0).a (noHs.u 0).n (noHs.u 0).c, .slice (noHs.u 1).a (noHs.u 1).n (noHs.u 1).c, .slice (noHs.u 2).a (noHs.u 2).n (noHs.u 2).c, .slice noHs.c.a noHs.c.n noHs.c.c]), (.agg #[.slice (Ls.noSl 0).a (Ls.noSl 0).n (Ls.noSl 0).c, .slice (Ls.noSl 1).a (Ls.noSl 1).n (Ls.noSl 1).c, .slice (Ls.noSl 2).a (Ls.noSl 2).n (Ls.noSl 2).c]), .int .i64 0, .int .i64 1]) (rtake_res_drew T7.out.ts (t := noHs) (v := Ls.noSl) (hp_none w7) (l3_none w7) rfl rfl rfl rfl rfl) rfl (take_yes_drew T7.out.ts (tkNo 1) (t := noHs) (v := Ls.noSl) (hp_none w7) (l3_none w7) ⟨rfl, rfl, rfl⟩ rfl)
set_option maxHeartbeats 1000000 in
theorem rtake_used (hp : Hp w w.heap.size s d) (l3 : Ls.L3 w w.heap.size u G) (hf : FineT s d u G) (hm : mayH s d 1 (fun _ => G) = true) (hh : Hd.mayB false o e N b m = true) : Calls Tryz.prog 8 #[(.agg #[.slice s.w.a s.w.n s.w.c, .slice s.p.a s.p.n s.p.c, .slice (s.u 0).a (s.u 0).n (s.u 0).c, .slice (s.u 1).a (s.u 1).n (s.u 1).c, .slice (s.u 2).a (s.u 2).n (s.u 2).c, .slice s.c.a s.c.n s.c.c]), (.agg #[.slice (u 0).a (u 0).n (u 0).c, .slice (u 1).a (u 1).n (u 1).c, .slice (u 2).a (u 2).n (u 2).c]), .agg #[.bool false, .bool o, .bool e, .int .i64 N, .int .i64 b, .int .i64 m]] w (TakeOut w (tkNo 1)) := by
  have HP := Lib.hid hp
  have HL := Lib.hid l3
  have HM := Lib.hid (rtake_mayc s u d G false o e N b m w hf)
  rw [hm] at HM
  have HH := Lib.hid hh
  clear hp l3 hf hm hh
  go_enter Tryz.func8, Tryz.ntmps8
  go_wp2_with fail
  obtain ⟨W5, hW5⟩ : ∃ W5, W5 = tk7 w s u false o e N b m := ⟨_, rfl⟩
  unfold tk7 at hW5
  have T5 := Lib.hid (tkr_start (us := false) HP.out HL.out hW5)
  have hz5 : w.heap.size + 1 + 1 + 1 + 1 + 1 + 1 + 1 = W5.heap.size := by rw [hW5]; simp
  rw [← hW5, hz5]
  clear hW5 hz5
  refine (HM.out W5 T5.out).mono ?_
  rintro e9 w6 ⟨rfl, hb6⟩
  have T6 := Lib.hid ((T5.out.next ((Below.refl _ _).alloc (Nat.le_refl _) (.cells #[.slice (u 0).a (u 0).n (u 0).c, .slice (u 1).a (u 1).n (u 1).c, .slice (u 2).a (u 2).n (u 2).c] 25))).next hb6)
  clear hb6 T5 HM
  have x0 := T6.out.ts.xb.c0
  have x1 := T6.out.ts.xb.c1
  have x2 := T6.out.ts.xb.c2
  have x3 := T6.out.ts.xb.c3
  have x4 := T6.out.ts.xb.c4
  have x5 := T6.out.ts.xb.c5
  have xl := T6.out.ts.xb.lt
  go_wp2_with fail
  refine (Hd.rmay_yes false o e N b m w6 HH.out).mono ?_
  rintro e9 w7 ⟨rfl, hb7⟩
  have T7 := Lib.hid (T6.out.next hb7)
  clear x0 x1 x2 x3 x4 x5 xl
  clear hb7 T6
  have x0 := T7.out.ts.xb.c0
  have x1 := T7.out.ts.xb.c1
  have x2 := T7.out.ts.xb.c2
  have x3 := T7.out.ts.xb.c3
  have x4 := T7.out.ts.xb.c4
  have x5 := T7.out.ts.xb.c5
  have xl := T7.out.ts.xb.lt
  have g0 := T7.out.ts.r6.free 0
  have g1 := T7.out.ts.r6.free 1
  have g2 := T7.out.ts.r6.free 2
  have g3 := T7.out.ts.r6.free 3
  have g4 := T7.out.ts.r6.free 4
  have g5 := T7.out.ts.r6.free 5
  have y0 := T7.out.ts.r6.box.c0
  have y1 := T7.out.ts.r6.box.c1
  have y2 := T7.out.ts.r6.box.c2
  have y3 := T7.out.ts.r6.box.c3
  have y4 := T7.out.ts.r6.box.c4
  have y5 := T7.out.ts.r6.box.c5
  have yl := T7.out.ts.r6.box.lt
  have i0 := T7.out.ts.r3.cell 0 (by decide)
  have i1 := T7.out.ts.r3.cell 1 (by decide)
  have i2 := T7.out.ts.r3.cell 2 (by decide)
  have j0 := T7.out.ts.r3.free 0
  have j1 := T7.out.ts.r3.free 1
  have j2 := T7.out.ts.r3.free 2
  have il := T7.out.ts.r3.lt
  have n0 := T7.out.n6.box.c0
  have n1 := T7.out.n6.box.c1
  have n2 := T7.out.n6.box.c2
  have n3 := T7.out.n6.box.c3
  have n4 := T7.out.n6.box.c4
  have n5 := T7.out.n6.box.c5
  have nl := T7.out.n6.box.lt
  have k0 := T7.out.n3.cell 0 (by decide)
  have k1 := T7.out.n3.cell 1 (by decide)
  have k2 := T7.out.n3.cell 2 (by decide)
  have kl := T7.out.n3.lt
  dsimp only [noHs, Ls.noSl] at n0 n1 n2 n3 n4 n5 k0 k1 k2
  go_wp2
  go_region
  all_goals go_wp2
  all_goals exact bodyPost_ret (v := .tuple #[(.agg #[.slice noHs.w.a noHs.w.n noHs.w.c, .slice noHs.p.a noHs.p.n noHs.p.c, .slice (noHs.u 0).a (noHs.u 0).n (noHs.u 0).c, .slice (noHs.u 1).a (noHs.u 1).n (noHs.u 1).c, .slice (noHs.u 2).a (noHs.u 2).n (noHs.u 2).c, .slice noHs.c.a noHs.c.n noHs.c.c]), (.agg #[.slice (Ls.noSl 0).a (Ls.noSl 0).n (Ls.noSl 0).c, .slice (Ls.noSl 1).a (Ls.noSl 1).n (Ls.noSl 1).c, .slice (Ls.noSl 2).a (Ls.noSl 2).n (Ls.noSl 2).c]), .int .i64 0, .int .i64 1]) (rtake_res_drew T7.out.ts (t := noHs) (v := Ls.noSl) (hp_none w7) (l3_none w7) rfl rfl rfl rfl rfl) rfl (take_yes_drew T7.out.ts (tkNo 1) (t := noHs) (v := Ls.noSl) (hp_none w7) (l3_none w7) ⟨rfl, rfl, rfl⟩ rfl)
set_option maxHeartbeats 1000000 in
theorem rtake_class (hp : Hp w w.heap.size s d) (l3 : Ls.L3 w w.heap.size u G) (hf : FineT s d u G) (hm : mayH s d 1 (fun _ => G) = true) (hh : Hd.mayB true o e N b m = true) (hc : ¬ Cl.classErr N = 0) : Calls Tryz.prog 8 #[(.agg #[.slice s.w.a s.w.n s.w.c, .slice s.p.a s.p.n s.p.c, .slice (s.u 0).a (s.u 0).n (s.u 0).c, .slice (s.u 1).a (s.u 1).n (s.u 1).c, .slice (s.u 2).a (s.u 2).n (s.u 2).c, .slice s.c.a s.c.n s.c.c]), (.agg #[.slice (u 0).a (u 0).n (u 0).c, .slice (u 1).a (u 1).n (u 1).c, .slice (u 2).a (u 2).n (u 2).c]), .agg #[.bool true, .bool o, .bool e, .int .i64 N, .int .i64 b, .int .i64 m]] w (TakeOut w (tkNo (Cl.classErr N))) := by
  have HP := Lib.hid hp
  have HL := Lib.hid l3
  have HM := Lib.hid (rtake_mayc s u d G true o e N b m w hf)
  rw [hm] at HM
  have HH := Lib.hid hh
  have de : (Cl.classErr N != 0) = true := by simp [hc]
  clear hp l3 hf hm hh hc
  go_enter Tryz.func8, Tryz.ntmps8
  go_wp2_with fail
  obtain ⟨W5, hW5⟩ : ∃ W5, W5 = tk7 w s u true o e N b m := ⟨_, rfl⟩
  unfold tk7 at hW5
  have T5 := Lib.hid (tkr_start (us := true) HP.out HL.out hW5)
  have hz5 : w.heap.size + 1 + 1 + 1 + 1 + 1 + 1 + 1 = W5.heap.size := by rw [hW5]; simp
  rw [← hW5, hz5]
  clear hW5 hz5
  refine (HM.out W5 T5.out).mono ?_
  rintro e9 w6 ⟨rfl, hb6⟩
  have T6 := Lib.hid ((T5.out.next ((Below.refl _ _).alloc (Nat.le_refl _) (.cells #[.slice (u 0).a (u 0).n (u 0).c, .slice (u 1).a (u 1).n (u 1).c, .slice (u 2).a (u 2).n (u 2).c] 25))).next hb6)
  clear hb6 T5 HM
  have x0 := T6.out.ts.xb.c0
  have x1 := T6.out.ts.xb.c1
  have x2 := T6.out.ts.xb.c2
  have x3 := T6.out.ts.xb.c3
  have x4 := T6.out.ts.xb.c4
  have x5 := T6.out.ts.xb.c5
  have xl := T6.out.ts.xb.lt
  go_wp2_with fail
  refine (Hd.rmay_yes true o e N b m w6 HH.out).mono ?_
  rintro e9 w7 ⟨rfl, hb7⟩
  have T7 := Lib.hid (T6.out.next hb7)
  clear x0 x1 x2 x3 x4 x5 xl
  clear hb7 T6
  have x0 := T7.out.ts.xb.c0
  have x1 := T7.out.ts.xb.c1
  have x2 := T7.out.ts.xb.c2
  have x3 := T7.out.ts.xb.c3
  have x4 := T7.out.ts.xb.c4
  have x5 := T7.out.ts.xb.c5
  have xl := T7.out.ts.xb.lt
  go_wp2_with fail
  refine (Cl.rof_of N w7).mono ?_
  rintro e9 w8 ⟨rfl, rfl⟩
  clear x0 x1 x2 x3 x4 x5 xl
  have g0 := T7.out.ts.r6.free 0
  have g1 := T7.out.ts.r6.free 1
  have g2 := T7.out.ts.r6.free 2
  have g3 := T7.out.ts.r6.free 3
  have g4 := T7.out.ts.r6.free 4
  have g5 := T7.out.ts.r6.free 5
  have y0 := T7.out.ts.r6.box.c0
  have y1 := T7.out.ts.r6.box.c1
  have y2 := T7.out.ts.r6.box.c2
  have y3 := T7.out.ts.r6.box.c3
  have y4 := T7.out.ts.r6.box.c4
  have y5 := T7.out.ts.r6.box.c5
  have yl := T7.out.ts.r6.box.lt
  have i0 := T7.out.ts.r3.cell 0 (by decide)
  have i1 := T7.out.ts.r3.cell 1 (by decide)
  have i2 := T7.out.ts.r3.cell 2 (by decide)
  have j0 := T7.out.ts.r3.free 0
  have j1 := T7.out.ts.r3.free 1
  have j2 := T7.out.ts.r3.free 2
  have il := T7.out.ts.r3.lt
  have n0 := T7.out.n6.box.c0
  have n1 := T7.out.n6.box.c1
  have n2 := T7.out.n6.box.c2
  have n3 := T7.out.n6.box.c3
  have n4 := T7.out.n6.box.c4
  have n5 := T7.out.n6.box.c5
  have nl := T7.out.n6.box.lt
  have k0 := T7.out.n3.cell 0 (by decide)
  have k1 := T7.out.n3.cell 1 (by decide)
  have k2 := T7.out.n3.cell 2 (by decide)
  have kl := T7.out.n3.lt
  dsimp only [noHs, Ls.noSl] at n0 n1 n2 n3 n4 n5 k0 k1 k2
  go_wp2
  go_region
  all_goals go_wp2
  all_goals exact bodyPost_ret (v := .tuple #[(.agg #[.slice noHs.w.a noHs.w.n noHs.w.c, .slice noHs.p.a noHs.p.n noHs.p.c, .slice (noHs.u 0).a (noHs.u 0).n (noHs.u 0).c, .slice (noHs.u 1).a (noHs.u 1).n (noHs.u 1).c, .slice (noHs.u 2).a (noHs.u 2).n (noHs.u 2).c, .slice noHs.c.a noHs.c.n noHs.c.c]), (.agg #[.slice (Ls.noSl 0).a (Ls.noSl 0).n (Ls.noSl 0).c, .slice (Ls.noSl 1).a (Ls.noSl 1).n (Ls.noSl 1).c, .slice (Ls.noSl 2).a (Ls.noSl 2).n (Ls.noSl 2).c]), .int .i64 0, .int .i64 (Cl.classErr N)]) (rtake_res_drew T7.out.ts (t := noHs) (v := Ls.noSl) (hp_none w7) (l3_none w7) rfl rfl rfl rfl rfl) rfl (take_yes_drew T7.out.ts (tkNo (Cl.classErr N)) (t := noHs) (v := Ls.noSl) (hp_none w7) (l3_none w7) ⟨rfl, rfl, rfl⟩ rfl)
end
end Go.Proofs.YtdmclfolooiccaaGreatDoor.Rp
