/-
  Package alloc's Take: a cell is taken, or there is none.
-/
import Derived.Test.YtdmclfolooiccaaGreatDoorAAlTakeR
namespace Go.Proofs.YtdmclfolooiccaaGreatDoor
open Go.RowKit
set_option maxRecDepth 100000

/-- How a cell is taken: there is an error, or what is left is told. -/
def How (s : Hs) (d : Hd_) (G : Nat → List Int) (N x : Int) (r : Tk) : Prop :=
  (∃ er, ¬ er = 0 ∧ r = tkNo er ∧ ∀ (W : World) (b : Nat) (t : Hs) (v : Nat → Ls.Sl), Sto W b t v d G → 0 < b → Cl.Sz W → Lens s t → Calls Tryz.prog 22 #[.pointer (some ⟨b, 0, none⟩), .int .i64 N] W fun e w' => e = .returned (.tuple #[.int .i64 0, .int .i64 er]) ∧ Below W.heap.size W w') ∨
  (∃ q : Hd_ × (Nat → List Int) × Int, r = ⟨0, s.w.n, s.p.n, s.c.n, beginD q.1 s.p.n q.2.2 x, q.2.1, q.2.2⟩ ∧ ¬ Cl.bg q.1.f s.p.n q.2.2 = 0 ∧ ∀ (W : World) (b : Nat) (t : Hs) (v : Nat → Ls.Sl), Sto W b t v d G → 0 < b → Cl.Sz W → Lens s t → Calls Tryz.prog 22 #[.pointer (some ⟨b, 0, none⟩), .int .i64 N] W (Popped b W t q.1 q.2.1 q.2.2))
theorem take_yes_drew {w W X : World} {s : Hs} {d : Hd_} {u : Nat → Ls.Sl} {G : Nat → List Int} {us o e : Bool} {N b m : Int} (h : TkS w W s d u G us o e N b m) {t : Hs} {v : Nat → Ls.Sl} (r : Tk) (hp : Hp W W.heap.size t r.d) (l3 : Ls.L3 W W.heap.size v r.G) (hl : t.w.n = r.wn ∧ t.p.n = r.pn ∧ t.c.n = r.cn) (hX : X = (Ls.put3 (put6 W (w.heap.size + 3) (.slice t.w.a t.w.n t.w.c) (.slice t.p.a t.p.n t.p.c) (.slice (t.u 0).a (t.u 0).n (t.u 0).c) (.slice (t.u 1).a (t.u 1).n (t.u 1).c) (.slice (t.u 2).a (t.u 2).n (t.u 2).c) (.slice t.c.a t.c.n t.c.c)) (w.heap.size + 4) v)) : TakeOut w r (.returned (.tuple #[(.agg #[.slice t.w.a t.w.n t.w.c, .slice t.p.a t.p.n t.p.c, .slice (t.u 0).a (t.u 0).n (t.u 0).c, .slice (t.u 1).a (t.u 1).n (t.u 1).c, .slice (t.u 2).a (t.u 2).n (t.u 2).c, .slice t.c.a t.c.n t.c.c]), (.agg #[.slice (v 0).a (v 0).n (v 0).c, .slice (v 1).a (v 1).n (v 1).c, .slice (v 2).a (v 2).n (v 2).c]), .int .i64 r.a, .int .i64 r.er])) X.drew := by
  have h1 := take_stored h hp l3
  rw [← hX] at h1
  have hb : Below X.heap.size X X.drew := below_drawn' (Below.refl _ _) 1
  exact ⟨t, v, rfl, h1.1.next hb, h1.2.1.next hb, hl, below_drawn' h1.2.2.1 1⟩
theorem take_res_drew {w W X : World} {s : Hs} {d d' : Hd_} {u : Nat → Ls.Sl} {G G' : Nat → List Int} {us o e : Bool} {N b m : Int} (h : TkS w W s d u G us o e N b m) {t : Hs} {v : Nat → Ls.Sl} (hp : Hp W W.heap.size t d') (l3 : Ls.L3 W W.heap.size v G') {tm : Array Value} {va ve : Value} (t6 : tm[6]? = some (.pointer (some ⟨w.heap.size + 3, 0, none⟩))) (t7 : tm[7]? = some (.pointer (some ⟨w.heap.size + 4, 0, none⟩))) (t8 : tm[8]? = some va) (t9 : tm[9]? = some ve) (hX : X = (Ls.put3 (put6 W (w.heap.size + 3) (.slice t.w.a t.w.n t.w.c) (.slice t.p.a t.p.n t.p.c) (.slice (t.u 0).a (t.u 0).n (t.u 0).c) (.slice (t.u 1).a (t.u 1).n (t.u 1).c) (.slice (t.u 2).a (t.u 2).n (t.u 2).c) (.slice t.c.a t.c.n t.c.c)) (w.heap.size + 4) v)) :
    (results Tryz.f7 tm).run Tryz.prog X.drew = .ok (.tuple #[(.agg #[.slice t.w.a t.w.n t.w.c, .slice t.p.a t.p.n t.p.c, .slice (t.u 0).a (t.u 0).n (t.u 0).c, .slice (t.u 1).a (t.u 1).n (t.u 1).c, .slice (t.u 2).a (t.u 2).n (t.u 2).c, .slice t.c.a t.c.n t.c.c]), (.agg #[.slice (v 0).a (v 0).n (v 0).c, .slice (v 1).a (v 1).n (v 1).c, .slice (v 2).a (v 2).n (v 2).c]), va, ve]) X.drew := by
  have h1 := take_stored h hp l3
  rw [← hX] at h1
  have hb : Below X.heap.size X X.drew := below_drawn' (Below.refl _ _) 1
  have h6 := h1.2.2.2.1.next hb
  have h3 := h1.2.2.2.2.next hb
  exact res_take t6 t7 t8 t9 h6.box.c0 h6.box.c1 h6.box.c2 h6.box.c3 h6.box.c4 h6.box.c5 (h3.cell 0 (by decide)) (h3.cell 1 (by decide)) (h3.cell 2 (by decide))
section
variable (s : Hs) (u : Nat → Ls.Sl) (d : Hd_) (G : Nat → List Int) (o e : Bool) (N b m : Int) (w : World)
set_option maxHeartbeats 4000000 in
theorem ptake_rest (hp : Hp w w.heap.size s d) (l3 : Ls.L3 w w.heap.size u G) (hz : Cl.Sz w) (hf : FineT s d u G) (hm : mayH s d 1 (fun _ => G) = true) (hh : Hd.mayB true o e N b m = true) (r : Tk) (hq : How s d G N (Hd.word true o e N b m) r) (hfit : Fit s) : Calls Tryz.prog 7 #[(.agg #[.slice s.w.a s.w.n s.w.c, .slice s.p.a s.p.n s.p.c, .slice (s.u 0).a (s.u 0).n (s.u 0).c, .slice (s.u 1).a (s.u 1).n (s.u 1).c, .slice (s.u 2).a (s.u 2).n (s.u 2).c, .slice s.c.a s.c.n s.c.c]), (.agg #[.slice (u 0).a (u 0).n (u 0).c, .slice (u 1).a (u 1).n (u 1).c, .slice (u 2).a (u 2).n (u 2).c]), .agg #[.bool true, .bool o, .bool e, .int .i64 N, .int .i64 b, .int .i64 m]] w (TakeOut w r) := by
  have HP := Lib.hid hp
  have HL := Lib.hid l3
  have HZ := Lib.hid hz
  have hz0 := hz.pos
  have HM := Lib.hid (take_may s u d G true o e N b m w hz hf)
  rw [hm] at HM
  have HH := Lib.hid hh
  have HQ := Lib.hid hq
  have HFI := Lib.hid hf
  have HFT := Lib.hid hfit
  have HFB : Hid (firstB s d = true) := Lib.hid (mayH_all hm).1
  clear hm hh hq hfit
  clear hp l3 hz hf
  go_enter Tryz.func7, Tryz.ntmps7
  go_wp2_with fail
  obtain ⟨W5, hW5⟩ : ∃ W5, W5 = ((((w.alloc (.cells #[.slice s.w.a s.w.n s.w.c, .slice s.p.a s.p.n s.p.c, .slice (s.u 0).a (s.u 0).n (s.u 0).c, .slice (s.u 1).a (s.u 1).n (s.u 1).c, .slice (s.u 2).a (s.u 2).n (s.u 2).c, .slice s.c.a s.c.n s.c.c] 28)).alloc (.cells #[.slice (u 0).a (u 0).n (u 0).c, .slice (u 1).a (u 1).n (u 1).c, .slice (u 2).a (u 2).n (u 2).c] 25)).alloc (.cells #[.bool true, .bool o, .bool e, .int .i64 N, .int .i64 b, .int .i64 m] 30)).alloc (.cells #[.slice none 0 0, .slice none 0 0, .slice none 0 0, .slice none 0 0, .slice none 0 0, .slice none 0 0] 28)).alloc (.cells #[.slice none 0 0, .slice none 0 0, .slice none 0 0] 25) := ⟨_, rfl⟩
  have T5 := Lib.hid (tk_start (us := true) HP.out HL.out hW5)
  have hz5 : w.heap.size + 1 + 1 + 1 + 1 + 1 = W5.heap.size := by rw [hW5]; simp
  rw [← hW5, hz5]
  clear hW5 hz5
  refine (HM.out W5 T5.out).mono ?_
  rintro e9 w6 ⟨rfl, hb6⟩
  have T6 := Lib.hid ((T5.out.next ((Below.refl _ _).alloc (Nat.le_refl _) (.cells #[.slice (u 0).a (u 0).n (u 0).c, .slice (u 1).a (u 1).n (u 1).c, .slice (u 2).a (u 2).n (u 2).c] 25))).next hb6)
  clear hb6 T5
  have x0 := T6.out.xb.c0
  have x1 := T6.out.xb.c1
  have x2 := T6.out.xb.c2
  have x3 := T6.out.xb.c3
  have x4 := T6.out.xb.c4
  have x5 := T6.out.xb.c5
  have xl := T6.out.xb.lt
  go_wp2_with fail
  refine (Hd.may_yes true o e N b m w6 HH.out).mono ?_
  rintro e9 w7 ⟨rfl, hb7⟩
  have T7 := Lib.hid (T6.out.next hb7)
  clear x0 x1 x2 x3 x4 x5 xl
  clear hb7 T6
  have x0 := T7.out.xb.c0
  have x1 := T7.out.xb.c1
  have x2 := T7.out.xb.c2
  have x3 := T7.out.xb.c3
  have x4 := T7.out.xb.c4
  have x5 := T7.out.xb.c5
  have xl := T7.out.xb.lt
  go_wp2_with fail
  clear x0 x1 x2 x3 x4 x5 xl
  refine wp_region_from (by kernel_rfl) (TInv w7 s u d G) ?dag ?start ?step ?done
  case dag => exact dag_any (by kernel_rfl)
  case start =>
    simp only [TInv, TPut, Act.put, List.setIfInBounds_toArray, List.set_cons_succ, List.set_cons_zero]
    exact ⟨_, _, _, _, _, _, noHs, Ls.noSl, 0, rfl, TR.start _ _ _ _ _ _⟩
  case step =>
    rintro i o9 l a9 wc ho ⟨x10, x30, x31, x32, x33, x34, t, v, b9, rfl, hs⟩ hl haft K hK
    have hi : i < 7 := (Array.getElem?_eq_some_iff.1 ho).1
    refine wpOp_of ho ?_
    rcases (show i = 0 ∨ i = 1 ∨ i = 2 ∨ i = 3 ∨ i = 4 ∨ i = 5 ∨ i = 6 by omega) with rfl | rfl | rfl | rfl | rfl | rfl | rfl
    · obtain rfl := Option.some.inj ho
      have T8 := T7.out.next hs.bel
      have q0 := T8.hb.c0
      have q1 := T8.hb.c1
      have q2 := T8.hb.c2
      have q3 := T8.hb.c3
      have q4 := T8.hb.c4
      have q5 := T8.hb.c5
      have ql := T8.hb.lt
      have HD := Lib.hid (hs.did0 hl)
      clear ho haft hi T8
      simp only [TPut, Act.put]
      go_simp
      exact hK _ _ ⟨x10, (.agg #[.slice s.w.a s.w.n s.w.c, .slice s.p.a s.p.n s.p.c, .slice (s.u 0).a (s.u 0).n (s.u 0).c, .slice (s.u 1).a (s.u 1).n (s.u 1).c, .slice (s.u 2).a (s.u 2).n (s.u 2).c, .slice s.c.a s.c.n s.c.c]), x31, x32, x33, x34, t, v, b9, (by simp only [TPut, Act.put, List.setIfInBounds_toArray, List.set_cons_succ, List.set_cons_zero]), HD.out⟩
    · obtain rfl := Option.some.inj ho
      have e1 := hs.s0 (haft ⟨0, .data⟩ (by simp) rfl)
      have T8 := T7.out.next hs.bel
      have HC := Lib.hid (acopied_any s d wc (T8.hp.more T8.bel.size) HFI.out.fine HFB.out)
      have HS := Lib.hid hs
      have HL1 := Lib.hid hl
      subst e1
      clear ho haft hi T8 hs hl
      simp only [TPut, Act.put]
      go_simp
      refine HC.out.mono ?_
      rintro e9 w8 ⟨t', rfl, hp8, hn8, pc8, hb8⟩
      exact hK _ _ ⟨x10, (.agg #[.slice s.w.a s.w.n s.w.c, .slice s.p.a s.p.n s.p.c, .slice (s.u 0).a (s.u 0).n (s.u 0).c, .slice (s.u 1).a (s.u 1).n (s.u 1).c, .slice (s.u 2).a (s.u 2).n (s.u 2).c, .slice s.c.a s.c.n s.c.c]), (.agg #[.slice t'.w.a t'.w.n t'.w.c, .slice t'.p.a t'.p.n t'.p.c, .slice (t'.u 0).a (t'.u 0).n (t'.u 0).c, .slice (t'.u 1).a (t'.u 1).n (t'.u 1).c, .slice (t'.u 2).a (t'.u 2).n (t'.u 2).c, .slice t'.c.a t'.c.n t'.c.c]), x32, x33, x34, t', v, b9, (by simp only [TPut, Act.put, List.setIfInBounds_toArray, List.set_cons_succ, List.set_cons_zero]), HS.out.did1 HL1.out hb8 hp8 hn8 pc8⟩
    · obtain rfl := Option.some.inj ho
      have T8 := T7.out.next hs.bel
      have p0 := T8.cb.cell 0 (by decide)
      have p1 := T8.cb.cell 1 (by decide)
      have p2 := T8.cb.cell 2 (by decide)
      have pl := T8.cb.lt
      have HD := Lib.hid (hs.did2 hl)
      clear ho haft hi T8
      simp only [TPut, Act.put]
      go_simp
      exact hK _ _ ⟨x10, x30, x31, (.agg #[.slice (u 0).a (u 0).n (u 0).c, .slice (u 1).a (u 1).n (u 1).c, .slice (u 2).a (u 2).n (u 2).c]), x33, x34, t, v, b9, (by simp only [TPut, Act.put, List.setIfInBounds_toArray, List.set_cons_succ, List.set_cons_zero]), HD.out⟩
    · obtain rfl := Option.some.inj ho
      have e1 := hs.s2 (haft ⟨2, .data⟩ (by simp) rfl)
      have hl1 := haft ⟨1, .chain⟩ (by simp) rfl
      have T8 := T7.out.next hs.bel
      have HC := Lib.hid (Ls.aown_any wc.heap.size u G wc (T8.l3.more T8.bel.size) (Nat.le_refl _) (fun j hj => by have := HFI.out.lg j hj; omega))
      have HS := Lib.hid hs
      have HL1 := Lib.hid (And.intro hl hl1)
      subst e1
      clear ho haft hi T8 hs hl hl1
      simp only [TPut, Act.put]
      go_simp
      refine HC.out.mono ?_
      rintro e9 w8 ⟨v', rfl, ho8, hb8⟩
      exact hK _ _ ⟨x10, x30, x31, (.agg #[.slice (u 0).a (u 0).n (u 0).c, .slice (u 1).a (u 1).n (u 1).c, .slice (u 2).a (u 2).n (u 2).c]), (.agg #[.slice (v' 0).a (v' 0).n (v' 0).c, .slice (v' 1).a (v' 1).n (v' 1).c, .slice (v' 2).a (v' 2).n (v' 2).c]), x34, t, v', b9, (by simp only [TPut, Act.put, List.setIfInBounds_toArray, List.set_cons_succ, List.set_cons_zero]), HS.out.did3 HL1.out.1 HL1.out.2 hb8 ho8.l3⟩
    · obtain rfl := Option.some.inj ho
      have e1 := (hs.s1 (haft ⟨1, .data⟩ (by simp) rfl)).1
      have e2 := (hs.s3 (haft ⟨3, .data⟩ (by simp) rfl)).1
      have HD := Lib.hid (hs.did4 hl (haft ⟨3, .data⟩ (by simp) rfl))
      subst e1 e2
      clear ho haft hi
      simp only [TPut, Act.put]
      go_simp
      exact hK _ _ ⟨x10, x30, (.agg #[.slice t.w.a t.w.n t.w.c, .slice t.p.a t.p.n t.p.c, .slice (t.u 0).a (t.u 0).n (t.u 0).c, .slice (t.u 1).a (t.u 1).n (t.u 1).c, .slice (t.u 2).a (t.u 2).n (t.u 2).c, .slice t.c.a t.c.n t.c.c]), x32, (.agg #[.slice (v 0).a (v 0).n (v 0).c, .slice (v 1).a (v 1).n (v 1).c, .slice (v 2).a (v 2).n (v 2).c]), .agg #[.slice t.w.a t.w.n t.w.c, .slice t.p.a t.p.n t.p.c, .slice (t.u 0).a (t.u 0).n (t.u 0).c, .slice (t.u 1).a (t.u 1).n (t.u 1).c, .slice (t.u 2).a (t.u 2).n (t.u 2).c, .slice t.c.a t.c.n t.c.c, .slice (v 0).a (v 0).n (v 0).c, .slice (v 1).a (v 1).n (v 1).c, .slice (v 2).a (v 2).n (v 2).c], t, v, b9, (by simp only [TPut, Act.put, List.setIfInBounds_toArray, List.set_cons_succ, List.set_cons_zero]), HD.out⟩
    · obtain rfl := Option.some.inj ho
      have HD := Lib.hid (hs.did5 hl 51)
      clear ho haft hi
      simp only [TPut, Act.put]
      go_simp
      exact hK _ _ ⟨.pointer (some ⟨wc.heap.size, 0, none⟩), x30, x31, x32, x33, x34, t, v, _, (by simp only [TPut, Act.put, List.setIfInBounds_toArray, List.set_cons_succ, List.set_cons_zero]), HD.out⟩
    · obtain rfl := Option.some.inj ho
      have a5 := haft ⟨5, .data⟩ (by simp) rfl
      have a4 := haft ⟨4, .data⟩ (by simp) rfl
      have a3 := haft ⟨3, .chain⟩ (by simp) rfl
      have a0 := haft ⟨0, .phase⟩ (by simp) rfl
      have a1 := haft ⟨1, .phase⟩ (by simp) rfl
      have a2 := haft ⟨2, .phase⟩ (by simp) rfl
      have e1 := (hs.s5 a5).1
      have e2 := hs.s4 a4
      have B9 := (hs.s5 a5).2.2 hl
      have HD := Lib.hid (hs.did6 hl (fun j hj => by rcases (show j = 0 ∨ j = 1 ∨ j = 2 ∨ j = 3 ∨ j = 4 ∨ j = 5 by omega) with rfl | rfl | rfl | rfl | rfl | rfl <;> assumption))
      have z0 := B9.box.c0
      have z1 := B9.box.c1
      have z2 := B9.box.c2
      have z3 := B9.box.c3
      have z4 := B9.box.c4
      have z5 := B9.box.c5
      have z6 := B9.k6
      have z7 := B9.k7
      have z8 := B9.k8
      have zl := B9.box.lt
      dsimp only [noHs, Ls.noSl] at z0 z1 z2 z3 z4 z5 z6 z7 z8
      have f0 := B9.free 0
      have f1 := B9.free 1
      have f2 := B9.free 2
      have f3 := B9.free 3
      have f4 := B9.free 4
      have f5 := B9.free 5
      have f6 := B9.free 6
      have f7 := B9.free 7
      have f8 := B9.free 8
      subst e1 e2
      clear ho haft hi B9 a0 a1 a2 a3 a4 a5 hs
      simp only [TPut, Act.put]
      go_simp
      exact hK _ _ ⟨.pointer (some ⟨b9, 0, none⟩), x30, x31, x32, x33, .agg #[.slice t.w.a t.w.n t.w.c, .slice t.p.a t.p.n t.p.c, .slice (t.u 0).a (t.u 0).n (t.u 0).c, .slice (t.u 1).a (t.u 1).n (t.u 1).c, .slice (t.u 2).a (t.u 2).n (t.u 2).c, .slice t.c.a t.c.n t.c.c, .slice (v 0).a (v 0).n (v 0).c, .slice (v 1).a (v 1).n (v 1).c, .slice (v 2).a (v 2).n (v 2).c], t, v, b9, (by simp only [TPut, Act.put, List.setIfInBounds_toArray, List.set_cons_succ, List.set_cons_zero]), HD.out⟩
  case done =>
    rintro l a9 wc ⟨x10, x30, x31, x32, x33, x34, t, v, b9, rfl, hs⟩ hall
    have e0 := hs.s0 (hall 0 (by simp))
    have e1 := hs.s1 (hall 1 (by simp))
    have e2 := hs.s2 (hall 2 (by simp))
    have e3 := (hs.s3 (hall 3 (by simp))).1
    have e4 := hs.s4 (hall 4 (by simp))
    have e5 := hs.s5 (hall 5 (by simp))
    have SB := Lib.hid (hs.s6 (hall 6 (by simp)))
    have LE := Lib.hid e1.2.2.1
    have BB := Lib.hid e5.2.1
    have T8 := Lib.hid (T7.out.next hs.bel)
    have e1 := e1.1
    have e5 := e5.1
    clear hs hall
    subst e0 e1 e2 e3 e4 e5
    simp only [TPut, Act.put, List.setIfInBounds_toArray, List.set_cons_succ, List.set_cons_zero]
    have hsz := T7.out.size
    have hb5 : w.heap.size + 5 ≤ b9 := by have := BB.out; omega
    have Z8 := Lib.hid (HZ.out.over T8.out.bel hz0)
    have hbl : b9 < wc.heap.size := SB.out.b9.box.lt
    clear HM HP HL T7 BB HFI HFB hsz
    rcases HQ.out with ⟨er, her, hr, hT⟩ | ⟨q, hr, hbg, hT⟩
    · have HTk := Lib.hid (hT wc b9 t v SB.out (by omega) Z8.out LE.out)
      have de : (er != 0) = true := by simp [her]
      subst hr
      clear hT her HQ
      have x0 := T8.out.xb.c0
      have x1 := T8.out.xb.c1
      have x2 := T8.out.xb.c2
      have x3 := T8.out.xb.c3
      have x4 := T8.out.xb.c4
      have x5 := T8.out.xb.c5
      have xl := T8.out.xb.lt
      go_wp2_with fail
      refine HTk.out.mono ?_
      rintro e9 w9 ⟨rfl, hb9⟩
      have T9 := Lib.hid (T8.out.next hb9)
      clear hb9 T8 SB HTk x0 x1 x2 x3 x4 x5 xl
      have g0 := T9.out.r6.free 0
      have g1 := T9.out.r6.free 1
      have g2 := T9.out.r6.free 2
      have g3 := T9.out.r6.free 3
      have g4 := T9.out.r6.free 4
      have g5 := T9.out.r6.free 5
      have y0 := T9.out.r6.box.c0
      have y1 := T9.out.r6.box.c1
      have y2 := T9.out.r6.box.c2
      have y3 := T9.out.r6.box.c3
      have y4 := T9.out.r6.box.c4
      have y5 := T9.out.r6.box.c5
      have yl := T9.out.r6.box.lt
      have i0 := T9.out.r3.cell 0 (by decide)
      have i1 := T9.out.r3.cell 1 (by decide)
      have i2 := T9.out.r3.cell 2 (by decide)
      have j0 := T9.out.r3.free 0
      have j1 := T9.out.r3.free 1
      have j2 := T9.out.r3.free 2
      have il := T9.out.r3.lt
      dsimp only [noHs, Ls.noSl] at y0 y1 y2 y3 y4 y5 i0 i1 i2
      go_wp2
      refine bodyPost_ret (v := .tuple #[(.agg #[.slice noHs.w.a noHs.w.n noHs.w.c, .slice noHs.p.a noHs.p.n noHs.p.c, .slice (noHs.u 0).a (noHs.u 0).n (noHs.u 0).c, .slice (noHs.u 1).a (noHs.u 1).n (noHs.u 1).c, .slice (noHs.u 2).a (noHs.u 2).n (noHs.u 2).c, .slice noHs.c.a noHs.c.n noHs.c.c]), (.agg #[.slice (Ls.noSl 0).a (Ls.noSl 0).n (Ls.noSl 0).c, .slice (Ls.noSl 1).a (Ls.noSl 1).n (Ls.noSl 1).c, .slice (Ls.noSl 2).a (Ls.noSl 2).n (Ls.noSl 2).c]), .int .i64 0, .int .i64 er]) ?_ rfl (take_no_end T9.out er)
      exact take_no_res T9.out rfl rfl rfl rfl
    · have HTk := Lib.hid (hT wc b9 t v SB.out (by omega) Z8.out LE.out)
      have HBG := Lib.hid hbg
      subst hr
      clear hT hbg HQ
      have x0 := T8.out.xb.c0
      have x1 := T8.out.xb.c1
      have x2 := T8.out.xb.c2
      have x3 := T8.out.xb.c3
      have x4 := T8.out.xb.c4
      have x5 := T8.out.xb.c5
      have xl := T8.out.xb.lt
      go_wp2_with fail
      refine HTk.out.mono ?_
      rintro e9 w9 ⟨rfl, ⟨t', u', hs9, h3⟩, hb9⟩
      have T9 := Lib.hid (T8.out.below hb9 hb5)
      have Z9 := Lib.hid (Z8.out.over hb9 (by omega))
      have LT : Hid (t'.w.n = s.w.n ∧ t'.p.n = s.p.n ∧ t'.c.n = s.c.n) := Lib.hid ⟨h3.1.trans LE.out.1, h3.2.1.trans LE.out.2.1, h3.2.2.trans LE.out.2.2.2⟩
      have FT : Hid (Fit t') := Lib.hid ⟨by rw [LT.out.1]; exact HFT.out.w, by rw [LT.out.1, LT.out.2.1]; exact HFT.out.wp, by rw [LT.out.2.1]; exact HFT.out.p⟩
      have HBE := Lib.hid (begin_ok b9 t' u' q.1 q.2.1 w9 q.2.2 true o e N b m hs9 Z9.out (by omega) FT.out (by rw [LT.out.2.1]; exact HBG.out) HH.out)
      rw [LT.out.2.1] at HBE
      clear hs9 h3 hb9 T8 SB HTk x0 x1 x2 x3 x4 x5 xl FT Z8 HBG LE
      have x0 := T9.out.xb.c0
      have x1 := T9.out.xb.c1
      have x2 := T9.out.xb.c2
      have x3 := T9.out.xb.c3
      have x4 := T9.out.xb.c4
      have x5 := T9.out.xb.c5
      have xl := T9.out.xb.lt
      go_wp2_with fail
      refine HBE.out.mono ?_
      rintro e10 w10 ⟨rfl, ⟨t2, hs10, h3⟩, hb10⟩
      have T10 := Lib.hid (T9.out.below hb10 hb5)
      have S10 := Lib.hid hs10
      have L2 : Hid (t2.w.n = s.w.n ∧ t2.p.n = s.p.n ∧ t2.c.n = s.c.n) := Lib.hid ⟨h3.1.trans LT.out.1, h3.2.1.trans LT.out.2.1, h3.2.2.trans LT.out.2.2⟩
      clear hb10 hs10 h3 T9 HBE x0 x1 x2 x3 x4 x5 xl LT
      have q0 := S10.out.b9.box.c0
      have q1 := S10.out.b9.box.c1
      have q2 := S10.out.b9.box.c2
      have q3 := S10.out.b9.box.c3
      have q4 := S10.out.b9.box.c4
      have q5 := S10.out.b9.box.c5
      have q6 := S10.out.b9.k6
      have q7 := S10.out.b9.k7
      have q8 := S10.out.b9.k8
      have ql := S10.out.b9.box.lt
      have g0 := T10.out.r6.free 0
      have g1 := T10.out.r6.free 1
      have g2 := T10.out.r6.free 2
      have g3 := T10.out.r6.free 3
      have g4 := T10.out.r6.free 4
      have g5 := T10.out.r6.free 5
      have y0 := T10.out.r6.box.c0
      have y1 := T10.out.r6.box.c1
      have y2 := T10.out.r6.box.c2
      have y3 := T10.out.r6.box.c3
      have y4 := T10.out.r6.box.c4
      have y5 := T10.out.r6.box.c5
      have yl := T10.out.r6.box.lt
      have i0 := T10.out.r3.cell 0 (by decide)
      have i1 := T10.out.r3.cell 1 (by decide)
      have i2 := T10.out.r3.cell 2 (by decide)
      have j0 := T10.out.r3.free 0
      have j1 := T10.out.r3.free 1
      have j2 := T10.out.r3.free 2
      have il := T10.out.r3.lt
      dsimp only [noHs, Ls.noSl] at y0 y1 y2 y3 y4 y5 i0 i1 i2
      have hne : ¬ w.heap.size + 3 = b9 := by omega
      have hne2 : ¬ w.heap.size + 4 = b9 := by omega
      go_wp2
      go_region
      all_goals go_wp2
      all_goals exact bodyPost_ret (v := .tuple #[(.agg #[.slice t2.w.a t2.w.n t2.w.c, .slice t2.p.a t2.p.n t2.p.c, .slice (t2.u 0).a (t2.u 0).n (t2.u 0).c, .slice (t2.u 1).a (t2.u 1).n (t2.u 1).c, .slice (t2.u 2).a (t2.u 2).n (t2.u 2).c, .slice t2.c.a t2.c.n t2.c.c]), (.agg #[.slice (u' 0).a (u' 0).n (u' 0).c, .slice (u' 1).a (u' 1).n (u' 1).c, .slice (u' 2).a (u' 2).n (u' 2).c]), .int .i64 q.2.2, .int .i64 0]) (take_res_drew T10.out (t := t2) (v := u') S10.out.hp S10.out.l3 rfl rfl rfl rfl rfl) rfl (take_yes_drew T10.out ⟨0, s.w.n, s.p.n, s.c.n, beginD q.1 s.p.n q.2.2 (Hd.word true o e N b m), q.2.1, q.2.2⟩ (t := t2) (v := u') S10.out.hp S10.out.l3 L2.out rfl)
end
end Go.Proofs.YtdmclfolooiccaaGreatDoor
