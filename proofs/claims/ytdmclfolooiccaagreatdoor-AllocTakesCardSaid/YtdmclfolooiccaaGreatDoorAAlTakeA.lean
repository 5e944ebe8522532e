/-
  Package alloc's Take, where an error is told of what is handed in.
-/
import Derived.Test.YtdmclfolooiccaaGreatDoorAAlTakeS
namespace Go.Proofs.YtdmclfolooiccaaGreatDoor
open Go.RowKit
set_option maxRecDepth 100000

section
variable (s : Hs) (u : Nat → Ls.Sl) (d : Hd_) (G : Nat → List Int) (us o e : Bool) (N b m : Int) (w : World)
theorem take_may (hz : Cl.Sz w) (hf : FineT s d u G) : ∀ W, TkS w W s d u G us o e N b m → Calls Tryz.prog 18 #[(.agg #[.slice s.w.a s.w.n s.w.c, .slice s.p.a s.p.n s.p.c, .slice (s.u 0).a (s.u 0).n (s.u 0).c, .slice (s.u 1).a (s.u 1).n (s.u 1).c, .slice (s.u 2).a (s.u 2).n (s.u 2).c, .slice s.c.a s.c.n s.c.c]), .slice (some ⟨W.heap.size, 0, none⟩) 1 1] (W.alloc (.cells #[.slice (u 0).a (u 0).n (u 0).c, .slice (u 1).a (u 1).n (u 1).c, .slice (u 2).a (u 2).n (u 2).c] 25)) fun e w' => e = .returned (.bool (mayH s d 1 (fun _ => G))) ∧ Below (W.alloc (.cells #[.slice (u 0).a (u 0).n (u 0).c, .slice (u 1).a (u 1).n (u 1).c, .slice (u 2).a (u 2).n (u 2).c] 25)).heap.size (W.alloc (.cells #[.slice (u 0).a (u 0).n (u 0).c, .slice (u 1).a (u 1).n (u 1).c, .slice (u 2).a (u 2).n (u 2).c] 25)) w' := fun W h => by
  have hb := (Below.refl W.heap.size W).alloc (Nat.le_refl _) (.cells #[.slice (u 0).a (u 0).n (u 0).c, .slice (u 1).a (u 1).n (u 1).c, .slice (u 2).a (u 2).n (u 2).c] 25)
  have hl := h.size
  have h2 := h.next hb
  have hz0 := hz.pos
  refine pmay_any s d (some ⟨W.heap.size, 0, none⟩) 1 1 (fun _ => u) (fun _ => G) (W.alloc (.cells #[.slice (u 0).a (u 0).n (u 0).c, .slice (u 1).a (u 1).n (u 1).c, .slice (u 2).a (u 2).n (u 2).c] 25)) (h2.hp.more h2.bel.size) (lrow_of (own_one W u) (by simp) (fun _ _ => h2.l3.more h2.bel.size)) (by decide) (hz.over h2.bel hz0) hf.fine.wn ?_ hf.fine.cn hf.all
  have := hf.fine.pn
  omega
section
variable {s u d G us o e N b m w}
theorem take_no_end {W : World} (h : TkS w W s d u G us o e N b m) (er : Int) : TakeOut w (tkNo er) (.returned (.tuple #[(.agg #[.slice noHs.w.a noHs.w.n noHs.w.c, .slice noHs.p.a noHs.p.n noHs.p.c, .slice (noHs.u 0).a (noHs.u 0).n (noHs.u 0).c, .slice (noHs.u 1).a (noHs.u 1).n (noHs.u 1).c, .slice (noHs.u 2).a (noHs.u 2).n (noHs.u 2).c, .slice noHs.c.a noHs.c.n noHs.c.c]), (.agg #[.slice (Ls.noSl 0).a (Ls.noSl 0).n (Ls.noSl 0).c, .slice (Ls.noSl 1).a (Ls.noSl 1).n (Ls.noSl 1).c, .slice (Ls.noSl 2).a (Ls.noSl 2).n (Ls.noSl 2).c]), .int .i64 0, .int .i64 er])) (Ls.put3 (put6 W (w.heap.size + 3) (.slice none 0 0) (.slice none 0 0) (.slice none 0 0) (.slice none 0 0) (.slice none 0 0) (.slice none 0 0)) (w.heap.size + 4) Ls.noSl) := by
  have h0 : Hp W W.heap.size noHs dNone := ⟨Row.none_ _ _, fun h => absurd h (Nat.lt_irrefl 0), Ls.L3.none_ _ _, fun h => absurd h (Nat.lt_irrefl 0)⟩
  obtain ⟨h1, h2, h3, _, _⟩ := take_stored h h0 (Ls.L3.none_ W W.heap.size)
  exact ⟨noHs, Ls.noSl, rfl, h1, h2, ⟨rfl, rfl, rfl⟩, h3⟩
theorem take_no_res {W : World} (h : TkS w W s d u G us o e N b m) {tm : Array Value} {va ve : Value} (t6 : tm[6]? = some (.pointer (some ⟨w.heap.size + 3, 0, none⟩))) (t7 : tm[7]? = some (.pointer (some ⟨w.heap.size + 4, 0, none⟩))) (t8 : tm[8]? = some va) (t9 : tm[9]? = some ve) :
    (results Tryz.f7 tm).run Tryz.prog (Ls.put3 (put6 W (w.heap.size + 3) (.slice none 0 0) (.slice none 0 0) (.slice none 0 0) (.slice none 0 0) (.slice none 0 0) (.slice none 0 0)) (w.heap.size + 4) Ls.noSl) = .ok (.tuple #[(.agg #[.slice noHs.w.a noHs.w.n noHs.w.c, .slice noHs.p.a noHs.p.n noHs.p.c, .slice (noHs.u 0).a (noHs.u 0).n (noHs.u 0).c, .slice (noHs.u 1).a (noHs.u 1).n (noHs.u 1).c, .slice (noHs.u 2).a (noHs.u 2).n (noHs.u 2).c, .slice noHs.c.a noHs.c.n noHs.c.c]), (.agg #[.slice (Ls.noSl 0).a (Ls.noSl 0).n (Ls.noSl 0).c, .slice (Ls.noSl 1).a (Ls.noSl 1).n (Ls.noSl 1).c, .slice (Ls.noSl 2).a (Ls.noSl 2).n (Ls.noSl 2).c]), va, ve]) (Ls.put3 (put6 W (w.heap.size + 3) (.slice none 0 0) (.slice none 0 0) (.slice none 0 0) (.slice none 0 0) (.slice none 0 0) (.slice none 0 0)) (w.heap.size + 4) Ls.noSl) := by
  have h0 : Hp W W.heap.size noHs dNone := ⟨Row.none_ _ _, fun h => absurd h (Nat.lt_irrefl 0), Ls.L3.none_ _ _, fun h => absurd h (Nat.lt_irrefl 0)⟩
  obtain ⟨_, _, _, h6, h3⟩ := take_stored h h0 (Ls.L3.none_ W W.heap.size)
  exact res_take t6 t7 t8 t9 h6.box.c0 h6.box.c1 h6.box.c2 h6.box.c3 h6.box.c4 h6.box.c5 (h3.cell 0 (by decide)) (h3.cell 1 (by decide)) (h3.cell 2 (by decide))
end
theorem ptake_may (hp : Hp w w.heap.size s d) (l3 : Ls.L3 w w.heap.size u G) (hz : Cl.Sz w) (hf : FineT s d u G) (hm : mayH s d 1 (fun _ => G) = false) : Calls Tryz.prog 7 #[(.agg #[.slice s.w.a s.w.n s.w.c, .slice s.p.a s.p.n s.p.c, .slice (s.u 0).a (s.u 0).n (s.u 0).c, .slice (s.u 1).a (s.u 1).n (s.u 1).c, .slice (s.u 2).a (s.u 2).n (s.u 2).c, .slice s.c.a s.c.n s.c.c]), (.agg #[.slice (u 0).a (u 0).n (u 0).c, .slice (u 1).a (u 1).n (u 1).c, .slice (u 2).a (u 2).n (u 2).c]), .agg #[.bool us, .bool o, .bool e, .int .i64 N, .int .i64 b, .int .i64 m]] w (TakeOut w (tkNo 1)) := by
  have HP := Lib.hid hp
  have HL := Lib.hid l3
  have HZ := Lib.hid hz
  have hz0 := hz.pos
  have HM := Lib.hid (take_may s u d G us o e N b m w hz hf)
  rw [hm] at HM
  clear hm
  clear hp l3 hz hf
  go_enter Tryz.func7, Tryz.ntmps7
  go_wp2_with fail
  obtain ⟨W5, hW5⟩ : ∃ W5, W5 = ((((w.alloc (.cells #[.slice s.w.a s.w.n s.w.c, .slice s.p.a s.p.n s.p.c, .slice (s.u 0).a (s.u 0).n (s.u 0).c, .slice (s.u 1).a (s.u 1).n (s.u 1).c, .slice (s.u 2).a (s.u 2).n (s.u 2).c, .slice s.c.a s.c.n s.c.c] 28)).alloc (.cells #[.slice (u 0).a (u 0).n (u 0).c, .slice (u 1).a (u 1).n (u 1).c, .slice (u 2).a (u 2).n (u 2).c] 25)).alloc (.cells #[.bool us, .bool o, .bool e, .int .i64 N, .int .i64 b, .int .i64 m] 30)).alloc (.cells #[.slice none 0 0, .slice none 0 0, .slice none 0 0, .slice none 0 0, .slice none 0 0, .slice none 0 0] 28)).alloc (.cells #[.slice none 0 0, .slice none 0 0, .slice none 0 0] 25) := ⟨_, rfl⟩
  have T5 := Lib.hid (tk_start (us := us) HP.out HL.out hW5)
  have hz5 : w.heap.size + 1 + 1 + 1 + 1 + 1 = W5.heap.size := by rw [hW5]; simp
  rw [← hW5, hz5]
  clear hW5 hz5
  refine (HM.out W5 T5.out).mono ?_
  rintro e9 w6 ⟨rfl, hb6⟩
  have T6 := Lib.hid ((T5.out.next ((Below.refl _ _).alloc (Nat.le_refl _) (.cells #[.slice (u 0).a (u 0).n (u 0).c, .slice (u 1).a (u 1).n (u 1).c, .slice (u 2).a (u 2).n (u 2).c] 25))).next hb6)
  clear hb6 T5
  have g0 := T6.out.r6.free 0
  have g1 := T6.out.r6.free 1
  have g2 := T6.out.r6.free 2
  have g3 := T6.out.r6.free 3
  have g4 := T6.out.r6.free 4
  have g5 := T6.out.r6.free 5
  have y0 := T6.out.r6.box.c0
  have y1 := T6.out.r6.box.c1
  have y2 := T6.out.r6.box.c2
  have y3 := T6.out.r6.box.c3
  have y4 := T6.out.r6.box.c4
  have y5 := T6.out.r6.box.c5
  have yl := T6.out.r6.box.lt
  have i0 := T6.out.r3.cell 0 (by decide)
  have i1 := T6.out.r3.cell 1 (by decide)
  have i2 := T6.out.r3.cell 2 (by decide)
  have j0 := T6.out.r3.free 0
  have j1 := T6.out.r3.free 1
  have j2 := T6.out.r3.free 2
  have il := T6.out.r3.lt
  dsimp only [noHs, Ls.noSl] at y0 y1 y2 y3 y4 y5 i0 i1 i2
  go_wp2
  refine bodyPost_ret (v := .tuple #[(.agg #[.slice noHs.w.a noHs.w.n noHs.w.c, .slice noHs.p.a noHs.p.n noHs.p.c, .slice (noHs.u 0).a (noHs.u 0).n (noHs.u 0).c, .slice (noHs.u 1).a (noHs.u 1).n (noHs.u 1).c, .slice (noHs.u 2).a (noHs.u 2).n (noHs.u 2).c, .slice noHs.c.a noHs.c.n noHs.c.c]), (.agg #[.slice (Ls.noSl 0).a (Ls.noSl 0).n (Ls.noSl 0).c, .slice (Ls.noSl 1).a (Ls.noSl 1).n (Ls.noSl 1).c, .slice (Ls.noSl 2).a (Ls.noSl 2).n (Ls.noSl 2).c]), .int .i64 0, .int .i64 1]) ?_ rfl (take_no_end T6.out 1)
  exact take_no_res T6.out rfl rfl rfl rfl
theorem ptake_head (hp : Hp w w.heap.size s d) (l3 : Ls.L3 w w.heap.size u G) (hz : Cl.Sz w) (hf : FineT s d u G) (hm : mayH s d 1 (fun _ => G) = true) (hh : Hd.mayB us o e N b m = false) : Calls Tryz.prog 7 #[(.agg #[.slice s.w.a s.w.n s.w.c, .slice s.p.a s.p.n s.p.c, .slice (s.u 0).a (s.u 0).n (s.u 0).c, .slice (s.u 1).a (s.u 1).n (s.u 1).c, .slice (s.u 2).a (s.u 2).n (s.u 2).c, .slice s.c.a s.c.n s.c.c]), (.agg #[.slice (u 0).a (u 0).n (u 0).c, .slice (u 1).a (u 1).n (u 1).c, .slice (u 2).a (u 2).n (u 2).c]), .agg #[.bool us, .bool o, .bool e, .int .i64 N, .int .i64 b, .int .i64 m]] w (TakeOut w (tkNo 1)) := by
  have HP := Lib.hid hp
  have HL := Lib.hid l3
  have HZ := Lib.hid hz
  have hz0 := hz.pos
  have HM := Lib.hid (take_may s u d G us o e N b m w hz hf)
  rw [hm] at HM
  have HH := Lib.hid hh
  clear hm hh
  clear hp l3 hz hf
  go_enter Tryz.func7, Tryz.ntmps7
  go_wp2_with fail
  obtain ⟨W5, hW5⟩ : ∃ W5, W5 = ((((w.alloc (.cells #[.slice s.w.a s.w.n s.w.c, .slice s.p.a s.p.n s.p.c, .slice (s.u 0).a (s.u 0).n (s.u 0).c, .slice (s.u 1).a (s.u 1).n (s.u 1).c, .slice (s.u 2).a (s.u 2).n (s.u 2).c, .slice s.c.a s.c.n s.c.c] 28)).alloc (.cells #[.slice (u 0).a (u 0).n (u 0).c, .slice (u 1).a (u 1).n (u 1).c, .slice (u 2).a (u 2).n (u 2).c] 25)).alloc (.cells #[.bool us, .bool o, .bool e, .int .i64 N, .int .i64 b, .int .i64 m] 30)).alloc (.cells #[.slice none 0 0, .slice none 0 0, .slice none 0 0, .slice none 0 0, .slice none 0 0, .slice none 0 0] 28)).alloc (.cells #[.slice none 0 0, .slice none 0 0, .slice none 0 0] 25) := ⟨_, rfl⟩
  have T5 := Lib.hid (tk_start (us := us) HP.out HL.out hW5)
  have hz5 : w.heap.size + 1 + 1 + 1 + 1 + 1 = W5.heap.size := by rw [hW5]; simp
  rw [← hW5, hz5]
  clear hW5 hz5
  refine (HM.out W5 T5.out).mono ?_
  rintro e9 w6 ⟨rfl, hb6⟩
  have T6 := Lib.hid ((T5.out.next ((Below.refl _ _).alloc (Nat.le_refl _) (.cells #[.slice (u 0).a (u 0).n (u 0).c, .slice (u 1).a (u 1).n (u 1).c, .slice (u 2).a (u 2).n (u 2).c] 25))).next hb6)
  clear hb6 T5
  have x0 := T6.out.xb.c0
  have x1 := T6.out.xb.c1
  have x2 := T6.out.xb.c2
  have x3 := T6.out.xb.c3
  have x4 := T6.out.xb.c4
  have x5 := T6.out.xb.c5
  have xl := T6.out.xb.lt
  go_wp2_with fail
  refine (Hd.may_no us o e N b m w6 HH.out).mono ?_
  rintro e9 w7 ⟨rfl, hb7⟩
  have T7 := Lib.hid (T6.out.next hb7)
  clear x0 x1 x2 x3 x4 x5 xl
  clear hb7 T6
  have g0 := T7.out.r6.free 0
  have g1 := T7.out.r6.free 1
  have g2 := T7.out.r6.free 2
  have g3 := T7.out.r6.free 3
  have g4 := T7.out.r6.free 4
  have g5 := T7.out.r6.free 5
  have y0 := T7.out.r6.box.c0
  have y1 := T7.out.r6.box.c1
  have y2 := T7.out.r6.box.c2
  have y3 := T7.out.r6.box.c3
  have y4 := T7.out.r6.box.c4
  have y5 := T7.out.r6.box.c5
  have yl := T7.out.r6.box.lt
  have i0 := T7.out.r3.cell 0 (by decide)
  have i1 := T7.out.r3.cell 1 (by decide)
  have i2 := T7.out.r3.cell 2 (by decide)
  have j0 := T7.out.r3.free 0
  have j1 := T7.out.r3.free 1
  have j2 := T7.out.r3.free 2
  have il := T7.out.r3.lt
  dsimp only [noHs, Ls.noSl] at y0 y1 y2 y3 y4 y5 i0 i1 i2
  go_wp2
  refine bodyPost_ret (v := .tuple #[(.agg #[.slice noHs.w.a noHs.w.n noHs.w.c, .slice noHs.p.a noHs.p.n noHs.p.c, .slice (noHs.u 0).a (noHs.u 0).n (noHs.u 0).c, .slice (noHs.u 1).a (noHs.u 1).n (noHs.u 1).c, .slice (noHs.u 2).a (noHs.u 2).n (noHs.u 2).c, .slice noHs.c.a noHs.c.n noHs.c.c]), (.agg #[.slice (Ls.noSl 0).a (Ls.noSl 0).n (Ls.noSl 0).c, .slice (Ls.noSl 1).a (Ls.noSl 1).n (Ls.noSl 1).c, .slice (Ls.noSl 2).a (Ls.noSl 2).n (Ls.noSl 2).c]), .int .i64 0, .int .i64 1]) ?_ rfl (take_no_end T7.out 1)
  exact take_no_res T7.out rfl rfl rfl rfl
theorem ptake_used (hp : Hp w w.heap.size s d) (l3 : Ls.L3 w w.heap.size u G) (hz : Cl.Sz w) (hf : FineT s d u G) (hm : mayH s d 1 (fun _ => G) = true) (hh : Hd.mayB false o e N b m = true) : Calls Tryz.prog 7 #[(.agg #[.slice s.w.a s.w.n s.w.c, .slice s.p.a s.p.n s.p.c, .slice (s.u 0).a (s.u 0).n (s.u 0).c, .slice (s.u 1).a (s.u 1).n (s.u 1).c, .slice (s.u 2).a (s.u 2).n (s.u 2).c, .slice s.c.a s.c.n s.c.c]), (.agg #[.slice (u 0).a (u 0).n (u 0).c, .slice (u 1).a (u 1).n (u 1).c, .slice (u 2).a (u 2).n (u 2).c]), .agg #[.bool false, .bool o, .bool e, .int .i64 N, .int .i64 b, .int .i64 m]] w (TakeOut w (tkNo 1)) := by
  have HP := Lib.hid hp
  have HL := Lib.hid l3
  have HZ := Lib.hid hz
  have hz0 := hz.pos
  have HM := Lib.hid (take_may s u d G false o e N b m w hz hf)
  rw [hm] at HM
  have HH := Lib.hid hh
  clear hm hh
  clear hp l3 hz hf
  go_enter Tryz.func7, Tryz.ntmps7
  go_wp2_with fail
  obtain ⟨W5, hW5⟩ : ∃ W5, W5 = ((((w.alloc (.cells #[.slice s.w.a s.w.n s.w.c, .slice s.p.a s.p.n s.p.c, .slice (s.u 0).a (s.u 0).n (s.u 0).c, .slice (s.u 1).a (s.u 1).n (s.u 1).c, .slice (s.u 2).a (s.u 2).n (s.u 2).c, .slice s.c.a s.c.n s.c.c] 28)).alloc (.cells #[.slice (u 0).a (u 0).n (u 0).c, .slice (u 1).a (u 1).n (u 1).c, .slice (u 2).a (u 2).n (u 2).c] 25)).alloc (.cells #[.bool false, .bool o, .bool e, .int .i64 N, .int .i64 b, .int .i64 m] 30)).alloc (.cells #[.slice none 0 0, .slice none 0 0, .slice none 0 0, .slice none 0 0, .slice none 0 0, .slice none 0 0] 28)).alloc (.cells #[.slice none 0 0, .slice none 0 0, .slice none 0 0] 25) := ⟨_, rfl⟩
  have T5 := Lib.hid (tk_start (us := false) HP.out HL.out hW5)
  have hz5 : w.heap.size + 1 + 1 + 1 + 1 + 1 = W5.heap.size := by rw [hW5]; simp
  rw [← hW5, hz5]
  clear hW5 hz5
  refine (HM.out W5 T5.out).mono ?_
  rintro e9 w6 ⟨rfl, hb6⟩
  have T6 := Lib.hid ((T5.out.next ((Below.refl _ _).alloc (Nat.le_refl _) (.cells #[.slice (u 0).a (u 0).n (u 0).c, .slice (u 1).a (u 1).n (u 1).c, .slice (u 2).a (u 2).n (u 2).c] 25))).next hb6)
  clear hb6 T5
  have x0 := T6.out.xb.c0
  have x1 := T6.out.xb.c1
  have x2 := T6.out.xb.c2
  have x3 := T6.out.xb.c3
  have x4 := T6.out.xb.c4
  have x5 := T6.out.xb.c5
  have xl := T6.out.xb.lt
  go_wp2_with fail
  refine (Hd.may_yes false o e N b m w6 HH.out).mono ?_
  rintro e9 w7 ⟨rfl, hb7⟩
  have T7 := Lib.hid (T6.out.next hb7)
  clear x0 x1 x2 x3 x4 x5 xl
  clear hb7 T6
  have x0 := T7.out.xb.c0
  have x1 := T7.out.xb.c1
  have x2 := T7.out.xb.c2
  have x3 := T7.out.xb.c3
  have x4 := T7.out.xb.c4
  have x5 := T7.out.xb.c5
  have xl := T7.out.xb.lt
  have g0 := T7.out.r6.free 0
  have g1 := T7.out.r6.free 1
  have g2 := T7.out.r6.free 2
  have g3 := T7.out.r6.free 3
  have g4 := T7.out.r6.free 4
  have g5 := T7.out.r6.free 5
  have y0 := T7.out.r6.box.c0
  have y1 := T7.out.r6.box.c1
  have y2 := T7.out.r6.box.c2
  have y3 := T7.out.r6.box.c3
  have y4 := T7.out.r6.box.c4
  have y5 := T7.out.r6.box.c5
  have yl := T7.out.r6.box.lt
  have i0 := T7.out.r3.cell 0 (by decide)
  have i1 := T7.out.r3.cell 1 (by decide)
  have i2 := T7.out.r3.cell 2 (by decide)
  have j0 := T7.out.r3.free 0
  have j1 := T7.out.r3.free 1
  have j2 := T7.out.r3.free 2
  have il := T7.out.r3.lt
  dsimp only [noHs, Ls.noSl] at y0 y1 y2 y3 y4 y5 i0 i1 i2
  go_wp2
  refine bodyPost_ret (v := .tuple #[(.agg #[.slice noHs.w.a noHs.w.n noHs.w.c, .slice noHs.p.a noHs.p.n noHs.p.c, .slice (noHs.u 0).a (noHs.u 0).n (noHs.u 0).c, .slice (noHs.u 1).a (noHs.u 1).n (noHs.u 1).c, .slice (noHs.u 2).a (noHs.u 2).n (noHs.u 2).c, .slice noHs.c.a noHs.c.n noHs.c.c]), (.agg #[.slice (Ls.noSl 0).a (Ls.noSl 0).n (Ls.noSl 0).c, .slice (Ls.noSl 1).a (Ls.noSl 1).n (Ls.noSl 1).c, .slice (Ls.noSl 2).a (Ls.noSl 2).n (Ls.noSl 2).c]), .int .i64 0, .int .i64 1]) ?_ rfl (take_no_end T7.out 1)
  exact take_no_res T7.out rfl rfl rfl rfl
end
end Go.Proofs.YtdmclfolooiccaaGreatDoor
