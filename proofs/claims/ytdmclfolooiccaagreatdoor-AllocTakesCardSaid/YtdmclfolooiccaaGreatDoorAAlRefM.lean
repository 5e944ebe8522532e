/-
  The reference's Move, where it tells lists: both lie in memory of their own.
-/
import Derived.Test.YtdmclfolooiccaaGreatDoorALsRMove
namespace Go.Proofs.YtdmclfolooiccaaGreatDoor.Ls
open Go.Proofs.YtdmclfolooiccaaGreatDoor
open Go.RowKit
set_option maxRecDepth 100000
attribute [local go_sem ↓] Go.wp_at_zero Go.wp_at_succ

def MoveNew (w : World) (F G : Nat → List Int) (er : Int) (e : Ending) (w' : World) : Prop := ∃ u v, e = .returned (.tuple #[(.agg #[.slice (u 0).a (u 0).n (u 0).c, .slice (u 1).a (u 1).n (u 1).c, .slice (u 2).a (u 2).n (u 2).c]), (.agg #[.slice (v 0).a (v 0).n (v 0).c, .slice (v 1).a (v 1).n (v 1).c, .slice (v 2).a (v 2).n (v 2).c]), .int .i64 er]) ∧ L3 w' w'.heap.size u F ∧ L3 w' w'.heap.size v G ∧ Below w.heap.size w w' ∧
  (∀ j x, j < 3 → 0 < (u j).n → (u j).a = some x → w.heap.size ≤ x.block) ∧ (∀ j x, j < 3 → (v j).a = some x → w.heap.size ≤ x.block) ∧ (∀ i j, i < 3 → j < 3 → ∀ x y, 0 < (u i).n → (u i).a = some x → (v j).a = some y → ¬ x.block = y.block)
theorem moveNew_drew {w W : World} {U V : Nat → Sl} {F G : Nat → List Int} (h1 : L3 W W.heap.size U F) (h2 : L3 W W.heap.size V G) (h3 : Below w.heap.size w W) (h4 : ∀ j x, j < 3 → 0 < (U j).n → (U j).a = some x → w.heap.size ≤ x.block) (h5 : ∀ j x, j < 3 → (V j).a = some x → w.heap.size ≤ x.block)
    (h6 : ∀ i j, i < 3 → j < 3 → ∀ x y, 0 < (U i).n → (U i).a = some x → (V j).a = some y → ¬ x.block = y.block) : MoveNew w F G 0 (.returned (.tuple #[(.agg #[.slice (U 0).a (U 0).n (U 0).c, .slice (U 1).a (U 1).n (U 1).c, .slice (U 2).a (U 2).n (U 2).c]), (.agg #[.slice (V 0).a (V 0).n (V 0).c, .slice (V 1).a (V 1).n (V 1).c, .slice (V 2).a (V 2).n (V 2).c]), .int .i64 0])) W.drew :=
  ⟨U, V, rfl, h1.drewN 1, h2.drewN 1, below_drawn h3 1, h4, h5, h6⟩
theorem MvR.outN {w wr : World} {R : Nat → Option Thing} {d1 d2 : Nat} {U V : Nat → Sl} {F G : Nat → List Int} (h : MvR w wr R d1 d2 U V F G) : ∀ W, W = (put3 (put3 wr (w.heap.size + 1 + 1) U) (w.heap.size + 1 + 1 + 1) V).drew → MoveNew w F G 0 (.returned (.tuple #[(.agg #[.slice (U 0).a (U 0).n (U 0).c, .slice (U 1).a (U 1).n (U 1).c, .slice (U 2).a (U 2).n (U 2).c]), (.agg #[.slice (V 0).a (V 0).n (V 0).c, .slice (V 1).a (V 1).n (V 1).c, .slice (V 2).a (V 2).n (V 2).c]), .int .i64 0])) W := by
  rintro W rfl
  have k1 : ∀ j x, j < 3 → 0 < (U j).n → (U j).a = some x → w.heap.size ≤ x.block := fun j x hj h0 hx => ((h.lst.res.ok 3 _ h.rows).2 x.block ⟨j, x, hj, h0, hx, rfl⟩).1
  have k2 : ∀ j x, j < 3 → (V j).a = some x → w.heap.size ≤ x.block := fun j x hj hx => ((h.lst.res.ok 0 _ h.lst.own).2 x.block ⟨j, x, hj, hx, rfl⟩).1
  have k3 : ∀ i j, i < 3 → j < 3 → ∀ x y, 0 < (U i).n → (U i).a = some x → (V j).a = some y → ¬ x.block = y.block := fun i j hi hj x y h0 hx hy e => h.lst.res.apart 3 0 _ _ h.rows h.lst.own (by decide) x.block ⟨i, x, hi, h0, hx, rfl⟩ ⟨j, y, hj, hy, e.symm⟩
  exact moveNew_drew h.done.1 h.done.2.1 h.done.2.2 k1 k2 k3
set_option maxHeartbeats 1000000 in
theorem rmove_new0 (B : Nat) (u v : Nat → Sl) (f g : Nat → List Int) (m : Nat) (w : World) (h : L3 w B u f) (h' : L3 w B v g) (hB : B ≤ w.heap.size) (hn : ∀ j, j < 3 → (u j).n ≤ 1000000) (hn' : ∀ j, j < 3 → (v j).n ≤ 1000000) (hm : m ≤ 9223372036854775807) :
    Calls Tryz.prog 32 #[(.agg #[.slice (u 0).a (u 0).n (u 0).c, .slice (u 1).a (u 1).n (u 1).c, .slice (u 2).a (u 2).n (u 2).c]), (.agg #[.slice (v 0).a (v 0).n (v 0).c, .slice (v 1).a (v 1).n (v 1).c, .slice (v 2).a (v 2).n (v 2).c]), .int .i64 0, .int .i64 m] w (MoveNew w (upd f 0 ((f 0).take ((f 0).length - m))) (upd g 0 (g 0 ++ ((f 0).drop ((f 0).length - m)).reverse)) 0) := by
  have hm0 : decide ((m : Int) < 0) = false := by simp
  have HL := Lib.hid h
  have HL' := Lib.hid h'
  have hfl : (f 0).length ≤ 1000000 := by have := h.len 0 (by decide); have := hn 0 (by decide); omega
  have hgl : (g 0).length ≤ 1000000 := by have := h'.len 0 (by decide); have := hn' 0 (by decide); omega
  have HN := Lib.hid (fun j (hj : j < 3) => Nat.le_trans (hn j hj) (show 1000000 ≤ 2000000 by omega))
  have HN' := Lib.hid (fun j (hj : j < 3) => Nat.le_trans (hn' j hj) (show 1000000 ≤ 2000000 by omega))
  have HFL := Lib.hid h.len
  have HNN := Lib.hid hn
  clear h h' hn hn'
  go_enter Tryz.func32, Tryz.ntmps32
  go_wp2_with fail
  obtain ⟨b0, X7, s4, R0, hR0, h2, h5, h7⟩ := four_boxes w u v
  generalize (((w.alloc (.cells #[.slice (u 0).a (u 0).n (u 0).c, .slice (u 1).a (u 1).n (u 1).c, .slice (u 2).a (u 2).n (u 2).c] 25)).alloc (.cells #[.slice (v 0).a (v 0).n (v 0).c, .slice (v 1).a (v 1).n (v 1).c, .slice (v 2).a (v 2).n (v 2).c] 25)).alloc (.cells #[.slice none 0 0, .slice none 0 0, .slice none 0 0] 25)).alloc (.cells #[.slice none 0 0, .slice none 0 0, .slice none 0 0] 25) = W at b0 X7 s4 hR0 ⊢
  refine (rown_any B u f W (HL.out.over b0 hB) (by omega) HN.out).mono ?_
  rintro e w1 ⟨U0, rfl, ho, hb⟩
  have X71 := X7.next hb
  have c0 := X71.cell 0 (by decide)
  have c1 := X71.cell 1 (by decide)
  have c2 := X71.cell 2 (by decide)
  have cl := X71.lt
  have HB1 := Lib.hid (b0.trans (hb.mono (by omega)))
  have HRS := Lib.hid (And.intro hR0 (And.intro h2 h5))
  have HO := Lib.hid (And.intro ho hb)
  have hs4 : w.heap.size ≤ W.heap.size := by omega
  have hs1 : w.heap.size ≤ w1.heap.size := by have := hb.size; omega
  clear ho hb X71 X7 b0 hR0 h2 h5 h7 s4
  go_wp2_with fail
  refine (rown_any B v g _ (HL'.out.over (HB1.out.alloc hs1 (.cells #[.slice (U0 0).a (U0 0).n (U0 0).c, .slice (U0 1).a (U0 1).n (U0 1).c, .slice (U0 2).a (U0 2).n (U0 2).c] 25)) hB) (by simp; omega) HN'.out).mono ?_
  rintro e w3 ⟨V0, rfl, ho', hb'⟩
  obtain ⟨R1, hM⟩ := mvr_start HRS.out.1 hs4 HRS.out.2.1 HRS.out.2.2 HO.out.1 HO.out.2 ho' hb'
  have HM := Lib.hid hM
  clear c0 c1 c2 cl ho' hb' hM HO HRS HB1
  go_wp2
  generalize w3.alloc (.cells #[.slice (V0 0).a (V0 0).n (V0 0).c, .slice (V0 1).a (V0 1).n (V0 1).c, .slice (V0 2).a (V0 2).n (V0 2).c] 25) = w4 at HM ⊢
  generalize w3.heap.size = d2 at HM ⊢
  generalize w1.heap.size = d1 at HM ⊢
  go_loopw [3, 13, 14, 15] (fun x _ _ _ wr => ∃ (j r : Nat) (U V : Nat → Sl) (R : Nat → Option Thing), r + j = m ∧ j ≤ (f 0).length ∧ x = .int .i64 r ∧ Hid (MvR w wr R d1 d2 U V (upd f 0 ((f 0).take ((f 0).length - j))) (upd g 0 (g 0 ++ ((f 0).drop ((f 0).length - j)).reverse)))) (fun x _ _ _ _ => (intOf x).toNat)
  case atStart =>
    refine ⟨0, m, U0, V0, R1, rfl, Nat.zero_le _, rfl, ?_⟩
    rw [mv_none, mv_none']
    exact HM
  case round =>
    obtain ⟨j, r, U, V, R, hr, hj, rfl, HC⟩ := hrel
    have XA := HC.out.a
    have c0 := XA.cell 0 (by decide)
    have c1 := XA.cell 1 (by decide)
    have c2 := XA.cell 2 (by decide)
    have cl := XA.lt
    have hUn : (U 0).n = (f 0).length - j := by
      have := HC.out.l3.len 0 (by decide)
      rw [upd_same, List.length_take] at this
      omega
    by_cases h0 : r = 0
    · subst h0
      have hh := HC.out
      rw [show (f 0).length - j = (f 0).length - m by omega] at hh
      have E := Lib.hid hh.outN
      have X2 := HC.out.lst.boxed
      have X8 := HC.out.b8
      have X9 := HC.out.b9
      obtain ⟨f1, f2, f3, f4⟩ := HC.out.far
      have b0 := X2.cell 0 (by decide)
      have b1 := X2.cell 1 (by decide)
      have b2 := X2.cell 2 (by decide)
      have bl := X2.lt
      have x0 := X8.cell 0 (by decide)
      have x1 := X8.cell 1 (by decide)
      have x2 := X8.cell 2 (by decide)
      have y0 := X8.free 0
      have y1 := X8.free 1
      have y2 := X8.free 2
      have xl := X8.lt
      have z0 := X9.cell 0 (by decide)
      have z1 := X9.cell 1 (by decide)
      have z2 := X9.cell 2 (by decide)
      have q0 := X9.free 0
      have q1 := X9.free 1
      have q2 := X9.free 2
      have zl := X9.lt
      clear hh X2 X8 X9 XA hUn
      go_wp2
      go_region_with (fail)
      all_goals go_wp2
      all_goals refine bodyPost_ret (v := .tuple #[(.agg #[.slice (U 0).a (U 0).n (U 0).c, .slice (U 1).a (U 1).n (U 1).c, .slice (U 2).a (U 2).n (U 2).c]), (.agg #[.slice (V 0).a (V 0).n (V 0).c, .slice (V 1).a (V 1).n (V 1).c, .slice (V 2).a (V 2).n (V 2).c]), .int .i64 0]) ?_ rfl ?_
      all_goals first
        | ((with_reducible refine E.out _ ?_); rfl)
        | simp [results, Tryz.results32, go_sem, x0, x1, x2, z0, z1, z2]
    · obtain ⟨r', rfl⟩ : ∃ r', r = r' + 1 := ⟨r - 1, by omega⟩
      have dr : decide ((0 : Int) < (r' : Int) + 1) = true := by simp <;> omega
      by_cases hz : (U 0).n = 0
      · have dz : decide (0 < (((U 0).n : Nat) : Int)) = false := by simp; omega
        have dz2 : decide (0 < (U 0).n) = false := by simp; omega
        have hh := HC.out
        rw [show (f 0).length - j = (f 0).length - m by omega] at hh
        have E := Lib.hid hh.outN
        have X2 := HC.out.lst.boxed
        have X8 := HC.out.b8
        have X9 := HC.out.b9
        obtain ⟨f1, f2, f3, f4⟩ := HC.out.far
        have b0 := X2.cell 0 (by decide)
        have b1 := X2.cell 1 (by decide)
        have b2 := X2.cell 2 (by decide)
        have bl := X2.lt
        have x0 := X8.cell 0 (by decide)
        have x1 := X8.cell 1 (by decide)
        have x2 := X8.cell 2 (by decide)
        have y0 := X8.free 0
        have y1 := X8.free 1
        have y2 := X8.free 2
        have xl := X8.lt
        have z0 := X9.cell 0 (by decide)
        have z1 := X9.cell 1 (by decide)
        have z2 := X9.cell 2 (by decide)
        have q0 := X9.free 0
        have q1 := X9.free 1
        have q2 := X9.free 2
        have zl := X9.lt
        clear hh X2 X8 X9 XA hUn hz h0
        go_wp2
        go_region_with (fail)
        all_goals go_wp2
        all_goals refine bodyPost_ret (v := .tuple #[(.agg #[.slice (U 0).a (U 0).n (U 0).c, .slice (U 1).a (U 1).n (U 1).c, .slice (U 2).a (U 2).n (U 2).c]), (.agg #[.slice (V 0).a (V 0).n (V 0).c, .slice (V 1).a (V 1).n (V 1).c, .slice (V 2).a (V 2).n (V 2).c]), .int .i64 0]) ?_ rfl ?_
        all_goals first
          | ((with_reducible refine E.out _ ?_); rfl)
          | simp [results, Tryz.results32, go_sem, x0, x1, x2, z0, z1, z2]
      · obtain ⟨m', hm'⟩ : ∃ m', (U 0).n = m' + 1 := ⟨(U 0).n - 1, by omega⟩
        have dz : decide (0 < (((U 0).n : Nat) : Int)) = true := by simp; omega
        have dz2 : decide (0 < (U 0).n) = true := by simp; omega
        have hj' : (f 0).length - j = m' + 1 := by omega
        have hbd : ∀ i, i < 3 → (U i).n ≤ 2000000 := by
          intro i hi
          have h1 := HC.out.l3.len i hi
          by_cases e : i = 0
          · rw [e] at h1 ⊢
            omega
          · rw [upd_other _ _ e] at h1
            have h2 := HFL.out i hi
            have h3 := HNN.out i hi
            omega
        have hVn : (V 0).n + 1 ≤ 4000000 := by
          have := HC.out.lst.len (k := 0) (by decide)
          rw [upd_same, List.length_append, List.length_reverse, List.length_drop] at this
          omega
        have hbig := HC.out.lst.big
        have HJ := Lib.hid (And.intro hj' (And.intro hm' hbd))
        clear h0 hz hUn hj' hm' hbd
        go_wp2_with fail
        refine (rpop_ok wr.heap.size U _ 0 (by decide) m' wr HC.out.l3 (Nat.le_refl _) HJ.out.2.2 HJ.out.2.1).mono ?_
        rintro e w6 ⟨p, rfl, hp, hb6, hn6⟩
        rw [mv_take HJ.out.1] at hp
        obtain ⟨x, hx⟩ : ∃ x, x = (upd f 0 ((f 0).take ((f 0).length - j)) 0).getD m' 0 := ⟨_, rfl⟩
        rw [← hx]
        obtain ⟨R8, h8⟩ := HC.out.popped hp hb6 hn6
        have A6 := XA.next hb6
        have D6 := HC.out.lst.boxed.next hb6
        have hne := HC.out.ne
        have a0 := A6.cell 0 (by decide)
        have a1 := A6.cell 1 (by decide)
        have a2 := A6.cell 2 (by decide)
        have g0 := A6.free 0
        have g1 := A6.free 1
        have g2 := A6.free 2
        have al := A6.lt
        have b0 := D6.cell 0 (by decide)
        have bf := D6.free 0
        have bl := D6.lt
        have hw6 : w.heap.size ≤ w6.heap.size := Nat.le_trans hbig hb6.size
        have H8 := Lib.hid h8
        have HXX := Lib.hid hx
        clear c0 c1 c2 cl XA A6 D6 hp hb6 hn6 h8 hx dz dz2
        go_wp2_with (at_builtin; refine list_cat rfl (.tmp 52) (.tmp 54) rfl rfl rfl (H8.out.lst.row _ (by decide)) (row_lit8 w6 d1 p x) (by simp [World.setCell]; omega) (by omega) ?_)
        intro p' cp' w9 hc
        obtain ⟨R9, h9⟩ := H8.out.cat (k := 0) (by decide) hc
        obtain ⟨M9, _⟩ := H8.out.lst.mid (k := 0) (by decide) hc
        have k0 := M9.cell 0 (by decide)
        have kf := M9.free 0
        have kl := M9.lt
        have H9 := Lib.hid h9
        clear hc h9 M9 a0 a1 a2 g0 g1 g2 al b0 bf bl
        go_wp2
        go_roundw
        case rel =>
          have h9 := H9.out
          rw [HXX.out, mv_drop rfl HJ.out.1] at h9
          exact ⟨j + 1, r', p, _, R9, by omega, by have := HJ.out.1; omega, by go_num, Lib.hid h9⟩
        case measure => simp [intOf]
set_option maxHeartbeats 1000000 in
theorem rmove_new1 (B : Nat) (u v : Nat → Sl) (f g : Nat → List Int) (m : Nat) (w : World) (h : L3 w B u f) (h' : L3 w B v g) (hB : B ≤ w.heap.size) (hn : ∀ j, j < 3 → (u j).n ≤ 1000000) (hn' : ∀ j, j < 3 → (v j).n ≤ 1000000) (hm : m ≤ 9223372036854775807) :
    Calls Tryz.prog 32 #[(.agg #[.slice (u 0).a (u 0).n (u 0).c, .slice (u 1).a (u 1).n (u 1).c, .slice (u 2).a (u 2).n (u 2).c]), (.agg #[.slice (v 0).a (v 0).n (v 0).c, .slice (v 1).a (v 1).n (v 1).c, .slice (v 2).a (v 2).n (v 2).c]), .int .i64 1, .int .i64 m] w (MoveNew w (upd f 1 ((f 1).take ((f 1).length - m))) (upd g 1 (g 1 ++ ((f 1).drop ((f 1).length - m)).reverse)) 0) := by
  have hm0 : decide ((m : Int) < 0) = false := by simp
  have HL := Lib.hid h
  have HL' := Lib.hid h'
  have hfl : (f 1).length ≤ 1000000 := by have := h.len 1 (by decide); have := hn 1 (by decide); omega
  have hgl : (g 1).length ≤ 1000000 := by have := h'.len 1 (by decide); have := hn' 1 (by decide); omega
  have HN := Lib.hid (fun j (hj : j < 3) => Nat.le_trans (hn j hj) (show 1000000 ≤ 2000000 by omega))
  have HN' := Lib.hid (fun j (hj : j < 3) => Nat.le_trans (hn' j hj) (show 1000000 ≤ 2000000 by omega))
  have HFL := Lib.hid h.len
  have HNN := Lib.hid hn
  clear h h' hn hn'
  go_enter Tryz.func32, Tryz.ntmps32
  go_wp2_with fail
  obtain ⟨b0, X7, s4, R0, hR0, h2, h5, h7⟩ := four_boxes w u v
  generalize (((w.alloc (.cells #[.slice (u 0).a (u 0).n (u 0).c, .slice (u 1).a (u 1).n (u 1).c, .slice (u 2).a (u 2).n (u 2).c] 25)).alloc (.cells #[.slice (v 0).a (v 0).n (v 0).c, .slice (v 1).a (v 1).n (v 1).c, .slice (v 2).a (v 2).n (v 2).c] 25)).alloc (.cells #[.slice none 0 0, .slice none 0 0, .slice none 0 0] 25)).alloc (.cells #[.slice none 0 0, .slice none 0 0, .slice none 0 0] 25) = W at b0 X7 s4 hR0 ⊢
  refine (rown_any B u f W (HL.out.over b0 hB) (by omega) HN.out).mono ?_
  rintro e w1 ⟨U0, rfl, ho, hb⟩
  have X71 := X7.next hb
  have c0 := X71.cell 0 (by decide)
  have c1 := X71.cell 1 (by decide)
  have c2 := X71.cell 2 (by decide)
  have cl := X71.lt
  have HB1 := Lib.hid (b0.trans (hb.mono (by omega)))
  have HRS := Lib.hid (And.intro hR0 (And.intro h2 h5))
  have HO := Lib.hid (And.intro ho hb)
  have hs4 : w.heap.size ≤ W.heap.size := by omega
  have hs1 : w.heap.size ≤ w1.heap.size := by have := hb.size; omega
  clear ho hb X71 X7 b0 hR0 h2 h5 h7 s4
  go_wp2_with fail
  refine (rown_any B v g _ (HL'.out.over (HB1.out.alloc hs1 (.cells #[.slice (U0 0).a (U0 0).n (U0 0).c, .slice (U0 1).a (U0 1).n (U0 1).c, .slice (U0 2).a (U0 2).n (U0 2).c] 25)) hB) (by simp; omega) HN'.out).mono ?_
  rintro e w3 ⟨V0, rfl, ho', hb'⟩
  obtain ⟨R1, hM⟩ := mvr_start HRS.out.1 hs4 HRS.out.2.1 HRS.out.2.2 HO.out.1 HO.out.2 ho' hb'
  have HM := Lib.hid hM
  clear c0 c1 c2 cl ho' hb' hM HO HRS HB1
  go_wp2
  generalize w3.alloc (.cells #[.slice (V0 0).a (V0 0).n (V0 0).c, .slice (V0 1).a (V0 1).n (V0 1).c, .slice (V0 2).a (V0 2).n (V0 2).c] 25) = w4 at HM ⊢
  generalize w3.heap.size = d2 at HM ⊢
  generalize w1.heap.size = d1 at HM ⊢
  go_loopw [3, 13, 14, 15] (fun x _ _ _ wr => ∃ (j r : Nat) (U V : Nat → Sl) (R : Nat → Option Thing), r + j = m ∧ j ≤ (f 1).length ∧ x = .int .i64 r ∧ Hid (MvR w wr R d1 d2 U V (upd f 1 ((f 1).take ((f 1).length - j))) (upd g 1 (g 1 ++ ((f 1).drop ((f 1).length - j)).reverse)))) (fun x _ _ _ _ => (intOf x).toNat)
  case atStart =>
    refine ⟨0, m, U0, V0, R1, rfl, Nat.zero_le _, rfl, ?_⟩
    rw [mv_none, mv_none']
    exact HM
  case round =>
    obtain ⟨j, r, U, V, R, hr, hj, rfl, HC⟩ := hrel
    have XA := HC.out.a
    have c0 := XA.cell 0 (by decide)
    have c1 := XA.cell 1 (by decide)
    have c2 := XA.cell 2 (by decide)
    have cl := XA.lt
    have hUn : (U 1).n = (f 1).length - j := by
      have := HC.out.l3.len 1 (by decide)
      rw [upd_same, List.length_take] at this
      omega
    by_cases h0 : r = 0
    · subst h0
      have hh := HC.out
      rw [show (f 1).length - j = (f 1).length - m by omega] at hh
      have E := Lib.hid hh.outN
      have X2 := HC.out.lst.boxed
      have X8 := HC.out.b8
      have X9 := HC.out.b9
      obtain ⟨f1, f2, f3, f4⟩ := HC.out.far
      have b0 := X2.cell 0 (by decide)
      have b1 := X2.cell 1 (by decide)
      have b2 := X2.cell 2 (by decide)
      have bl := X2.lt
      have x0 := X8.cell 0 (by decide)
      have x1 := X8.cell 1 (by decide)
      have x2 := X8.cell 2 (by decide)
      have y0 := X8.free 0
      have y1 := X8.free 1
      have y2 := X8.free 2
      have xl := X8.lt
      have z0 := X9.cell 0 (by decide)
      have z1 := X9.cell 1 (by decide)
      have z2 := X9.cell 2 (by decide)
      have q0 := X9.free 0
      have q1 := X9.free 1
      have q2 := X9.free 2
      have zl := X9.lt
      clear hh X2 X8 X9 XA hUn
      go_wp2
      go_region_with (fail)
      all_goals go_wp2
      all_goals refine bodyPost_ret (v := .tuple #[(.agg #[.slice (U 0).a (U 0).n (U 0).c, .slice (U 1).a (U 1).n (U 1).c, .slice (U 2).a (U 2).n (U 2).c]), (.agg #[.slice (V 0).a (V 0).n (V 0).c, .slice (V 1).a (V 1).n (V 1).c, .slice (V 2).a (V 2).n (V 2).c]), .int .i64 0]) ?_ rfl ?_
      all_goals first
        | ((with_reducible refine E.out _ ?_); rfl)
        | simp [results, Tryz.results32, go_sem, x0, x1, x2, z0, z1, z2]
    · obtain ⟨r', rfl⟩ : ∃ r', r = r' + 1 := ⟨r - 1, by omega⟩
      have dr : decide ((0 : Int) < (r' : Int) + 1) = true := by simp <;> omega
      by_cases hz : (U 1).n = 0
      · have dz : decide (0 < (((U 1).n : Nat) : Int)) = false := by simp; omega
        have dz2 : decide (0 < (U 1).n) = false := by simp; omega
        have hh := HC.out
        rw [show (f 1).length - j = (f 1).length - m by omega] at hh
        have E := Lib.hid hh.outN
        have X2 := HC.out.lst.boxed
        have X8 := HC.out.b8
        have X9 := HC.out.b9
        obtain ⟨f1, f2, f3, f4⟩ := HC.out.far
        have b0 := X2.cell 0 (by decide)
        have b1 := X2.cell 1 (by decide)
        have b2 := X2.cell 2 (by decide)
        have bl := X2.lt
        have x0 := X8.cell 0 (by decide)
        have x1 := X8.cell 1 (by decide)
        have x2 := X8.cell 2 (by decide)
        have y0 := X8.free 0
        have y1 := X8.free 1
        have y2 := X8.free 2
        have xl := X8.lt
        have z0 := X9.cell 0 (by decide)
        have z1 := X9.cell 1 (by decide)
        have z2 := X9.cell 2 (by decide)
        have q0 := X9.free 0
        have q1 := X9.free 1
        have q2 := X9.free 2
        have zl := X9.lt
        clear hh X2 X8 X9 XA hUn hz h0
        go_wp2
        go_region_with (fail)
        all_goals go_wp2
        all_goals refine bodyPost_ret (v := .tuple #[(.agg #[.slice (U 0).a (U 0).n (U 0).c, .slice (U 1).a (U 1).n (U 1).c, .slice (U 2).a (U 2).n (U 2).c]), (.agg #[.slice (V 0).a (V 0).n (V 0).c, .slice (V 1).a (V 1).n (V 1).c, .slice (V 2).a (V 2).n (V 2).c]), .int .i64 0]) ?_ rfl ?_
        all_goals first
          | ((with_reducible refine E.out _ ?_); rfl)
          | simp [results, Tryz.results32, go_sem, x0, x1, x2, z0, z1, z2]
      · obtain ⟨m', hm'⟩ : ∃ m', (U 1).n = m' + 1 := ⟨(U 1).n - 1, by omega⟩
        have dz : decide (0 < (((U 1).n : Nat) : Int)) = true := by simp; omega
        have dz2 : decide (0 < (U 1).n) = true := by simp; omega
        have hj' : (f 1).length - j = m' + 1 := by omega
        have hbd : ∀ i, i < 3 → (U i).n ≤ 2000000 := by
          intro i hi
          have h1 := HC.out.l3.len i hi
          by_cases e : i = 1
          · rw [e] at h1 ⊢
            omega
          · rw [upd_other _ _ e] at h1
            have h2 := HFL.out i hi
            have h3 := HNN.out i hi
            omega
        have hVn : (V 1).n + 1 ≤ 4000000 := by
          have := HC.out.lst.len (k := 1) (by decide)
          rw [upd_same, List.length_append, List.length_reverse, List.length_drop] at this
          omega
        have hbig := HC.out.lst.big
        have HJ := Lib.hid (And.intro hj' (And.intro hm' hbd))
        clear h0 hz hUn hj' hm' hbd
        go_wp2_with fail
        refine (rpop_ok wr.heap.size U _ 1 (by decide) m' wr HC.out.l3 (Nat.le_refl _) HJ.out.2.2 HJ.out.2.1).mono ?_
        rintro e w6 ⟨p, rfl, hp, hb6, hn6⟩
        rw [mv_take HJ.out.1] at hp
        obtain ⟨x, hx⟩ : ∃ x, x = (upd f 1 ((f 1).take ((f 1).length - j)) 1).getD m' 0 := ⟨_, rfl⟩
        rw [← hx]
        obtain ⟨R8, h8⟩ := HC.out.popped hp hb6 hn6
        have A6 := XA.next hb6
        have D6 := HC.out.lst.boxed.next hb6
        have hne := HC.out.ne
        have a0 := A6.cell 0 (by decide)
        have a1 := A6.cell 1 (by decide)
        have a2 := A6.cell 2 (by decide)
        have g0 := A6.free 0
        have g1 := A6.free 1
        have g2 := A6.free 2
        have al := A6.lt
        have b0 := D6.cell 1 (by decide)
        have bf := D6.free 1
        have bl := D6.lt
        have hw6 : w.heap.size ≤ w6.heap.size := Nat.le_trans hbig hb6.size
        have H8 := Lib.hid h8
        have HXX := Lib.hid hx
        clear c0 c1 c2 cl XA A6 D6 hp hb6 hn6 h8 hx dz dz2
        go_wp2_with (at_builtin; refine list_cat rfl (.tmp 52) (.tmp 54) rfl rfl rfl (H8.out.lst.row _ (by decide)) (row_lit8 w6 d1 p x) (by simp [World.setCell]; omega) (by omega) ?_)
        intro p' cp' w9 hc
        obtain ⟨R9, h9⟩ := H8.out.cat (k := 1) (by decide) hc
        obtain ⟨M9, _⟩ := H8.out.lst.mid (k := 1) (by decide) hc
        have k0 := M9.cell 1 (by decide)
        have kf := M9.free 1
        have kl := M9.lt
        have H9 := Lib.hid h9
        clear hc h9 M9 a0 a1 a2 g0 g1 g2 al b0 bf bl
        go_wp2
        go_roundw
        case rel =>
          have h9 := H9.out
          rw [HXX.out, mv_drop rfl HJ.out.1] at h9
          exact ⟨j + 1, r', p, _, R9, by omega, by have := HJ.out.1; omega, by go_num, Lib.hid h9⟩
        case measure => simp [intOf]
set_option maxHeartbeats 1000000 in
theorem rmove_new2 (B : Nat) (u v : Nat → Sl) (f g : Nat → List Int) (m : Nat) (w : World) (h : L3 w B u f) (h' : L3 w B v g) (hB : B ≤ w.heap.size) (hn : ∀ j, j < 3 → (u j).n ≤ 1000000) (hn' : ∀ j, j < 3 → (v j).n ≤ 1000000) (hm : m ≤ 9223372036854775807) :
    Calls Tryz.prog 32 #[(.agg #[.slice (u 0).a (u 0).n (u 0).c, .slice (u 1).a (u 1).n (u 1).c, .slice (u 2).a (u 2).n (u 2).c]), (.agg #[.slice (v 0).a (v 0).n (v 0).c, .slice (v 1).a (v 1).n (v 1).c, .slice (v 2).a (v 2).n (v 2).c]), .int .i64 2, .int .i64 m] w (MoveNew w (upd f 2 ((f 2).take ((f 2).length - m))) (upd g 2 (g 2 ++ ((f 2).drop ((f 2).length - m)).reverse)) 0) := by
  have hm0 : decide ((m : Int) < 0) = false := by simp
  have HL := Lib.hid h
  have HL' := Lib.hid h'
  have hfl : (f 2).length ≤ 1000000 := by have := h.len 2 (by decide); have := hn 2 (by decide); omega
  have hgl : (g 2).length ≤ 1000000 := by have := h'.len 2 (by decide); have := hn' 2 (by decide); omega
  have HN := Lib.hid (fun j (hj : j < 3) => Nat.le_trans (hn j hj) (show 1000000 ≤ 2000000 by omega))
  have HN' := Lib.hid (fun j (hj : j < 3) => Nat.le_trans (hn' j hj) (show 1000000 ≤ 2000000 by omega))
  have HFL := Lib.hid h.len
  have HNN := Lib.hid hn
  clear h h' hn hn'
  go_enter Tryz.func32, Tryz.ntmps32
  go_wp2_with fail
  obtain ⟨b0, X7, s4, R0, hR0, h2, h5, h7⟩ := four_boxes w u v
  generalize (((w.alloc (.cells #[.slice (u 0).a (u 0).n (u 0).c, .slice (u 1).a (u 1).n (u 1).c, .slice (u 2).a (u 2).n (u 2).c] 25)).alloc (.cells #[.slice (v 0).a (v 0).n (v 0).c, .slice (v 1).a (v 1).n (v 1).c, .slice (v 2).a (v 2).n (v 2).c] 25)).alloc (.cells #[.slice none 0 0, .slice none 0 0, .slice none 0 0] 25)).alloc (.cells #[.slice none 0 0, .slice none 0 0, .slice none 0 0] 25) = W at b0 X7 s4 hR0 ⊢
  refine (rown_any B u f W (HL.out.over b0 hB) (by omega) HN.out).mono ?_
  rintro e w1 ⟨U0, rfl, ho, hb⟩
  have X71 := X7.next hb
  have c0 := X71.cell 0 (by decide)
  have c1 := X71.cell 1 (by decide)
  have c2 := X71.cell 2 (by decide)
  have cl := X71.lt
  have HB1 := Lib.hid (b0.trans (hb.mono (by omega)))
  have HRS := Lib.hid (And.intro hR0 (And.intro h2 h5))
  have HO := Lib.hid (And.intro ho hb)
  have hs4 : w.heap.size ≤ W.heap.size := by omega
  have hs1 : w.heap.size ≤ w1.heap.size := by have := hb.size; omega
  clear ho hb X71 X7 b0 hR0 h2 h5 h7 s4
  go_wp2_with fail
  refine (rown_any B v g _ (HL'.out.over (HB1.out.alloc hs1 (.cells #[.slice (U0 0).a (U0 0).n (U0 0).c, .slice (U0 1).a (U0 1).n (U0 1).c, .slice (U0 2).a (U0 2).n (U0 2).c] 25)) hB) (by simp; omega) HN'.out).mono ?_
  rintro e w3 ⟨V0, rfl, ho', hb'⟩
  obtain ⟨R1, hM⟩ := mvr_start HRS.out.1 hs4 HRS.out.2.1 HRS.out.2.2 HO.out.1 HO.out.2 ho' hb'
  have HM := Lib.hid hM
  clear c0 c1 c2 cl ho' hb' hM HO HRS HB1
  go_wp2
  generalize w3.alloc (.cells #[.slice (V0 0).a (V0 0).n (V0 0).c, .slice (V0 1).a (V0 1).n (V0 1).c, .slice (V0 2).a (V0 2).n (V0 2).c] 25) = w4 at HM ⊢
  generalize w3.heap.size = d2 at HM ⊢
  generalize w1.heap.size = d1 at HM ⊢
  go_loopw [3, 13, 14, 15] (fun x _ _ _ wr => ∃ (j r : Nat) (U V : Nat → Sl) (R : Nat → Option Thing), r + j = m ∧ j ≤ (f 2).length ∧ x = .int .i64 r ∧ Hid (MvR w wr R d1 d2 U V (upd f 2 ((f 2).take ((f 2).length - j))) (upd g 2 (g 2 ++ ((f 2).drop ((f 2).length - j)).reverse)))) (fun x _ _ _ _ => (intOf x).toNat)
  case atStart =>
    refine ⟨0, m, U0, V0, R1, rfl, Nat.zero_le _, rfl, ?_⟩
    rw [mv_none, mv_none']
    exact HM
  case round =>
    obtain ⟨j, r, U, V, R, hr, hj, rfl, HC⟩ := hrel
    have XA := HC.out.a
    have c0 := XA.cell 0 (by decide)
    have c1 := XA.cell 1 (by decide)
    have c2 := XA.cell 2 (by decide)
    have cl := XA.lt
    have hUn : (U 2).n = (f 2).length - j := by
      have := HC.out.l3.len 2 (by decide)
      rw [upd_same, List.length_take] at this
      omega
    by_cases h0 : r = 0
    · subst h0
      have hh := HC.out
      rw [show (f 2).length - j = (f 2).length - m by omega] at hh
      have E := Lib.hid hh.outN
      have X2 := HC.out.lst.boxed
      have X8 := HC.out.b8
      have X9 := HC.out.b9
      obtain ⟨f1, f2, f3, f4⟩ := HC.out.far
      have b0 := X2.cell 0 (by decide)
      have b1 := X2.cell 1 (by decide)
      have b2 := X2.cell 2 (by decide)
      have bl := X2.lt
      have x0 := X8.cell 0 (by decide)
      have x1 := X8.cell 1 (by decide)
      have x2 := X8.cell 2 (by decide)
      have y0 := X8.free 0
      have y1 := X8.free 1
      have y2 := X8.free 2
      have xl := X8.lt
      have z0 := X9.cell 0 (by decide)
      have z1 := X9.cell 1 (by decide)
      have z2 := X9.cell 2 (by decide)
      have q0 := X9.free 0
      have q1 := X9.free 1
      have q2 := X9.free 2
      have zl := X9.lt
      clear hh X2 X8 X9 XA hUn
      go_wp2
      go_region_with (fail)
      all_goals go_wp2
      all_goals refine bodyPost_ret (v := .tuple #[(.agg #[.slice (U 0).a (U 0).n (U 0).c, .slice (U 1).a (U 1).n (U 1).c, .slice (U 2).a (U 2).n (U 2).c]), (.agg #[.slice (V 0).a (V 0).n (V 0).c, .slice (V 1).a (V 1).n (V 1).c, .slice (V 2).a (V 2).n (V 2).c]), .int .i64 0]) ?_ rfl ?_
      all_goals first
        | ((with_reducible refine E.out _ ?_); rfl)
        | simp [results, Tryz.results32, go_sem, x0, x1, x2, z0, z1, z2]
    · obtain ⟨r', rfl⟩ : ∃ r', r = r' + 1 := ⟨r - 1, by omega⟩
      have dr : decide ((0 : Int) < (r' : Int) + 1) = true := by simp <;> omega
      by_cases hz : (U 2).n = 0
      · have dz : decide (0 < (((U 2).n : Nat) : Int)) = false := by simp; omega
        have dz2 : decide (0 < (U 2).n) = false := by simp; omega
        have hh := HC.out
        rw [show (f 2).length - j = (f 2).length - m by omega] at hh
        have E := Lib.hid hh.outN
        have X2 := HC.out.lst.boxed
        have X8 := HC.out.b8
        have X9 := HC.out.b9
        obtain ⟨f1, f2, f3, f4⟩ := HC.out.far
        have b0 := X2.cell 0 (by decide)
        have b1 := X2.cell 1 (by decide)
        have b2 := X2.cell 2 (by decide)
        have bl := X2.lt
        have x0 := X8.cell 0 (by decide)
        have x1 := X8.cell 1 (by decide)
        have x2 := X8.cell 2 (by decide)
        have y0 := X8.free 0
        have y1 := X8.free 1
        have y2 := X8.free 2
        have xl := X8.lt
        have z0 := X9.cell 0 (by decide)
        have z1 := X9.cell 1 (by decide)
        have z2 := X9.cell 2 (by decide)
        have q0 := X9.free 0
        have q1 := X9.free 1
        have q2 := X9.free 2
        have zl := X9.lt
        clear hh X2 X8 X9 XA hUn hz h0
        go_wp2
        go_region_with (fail)
        all_goals go_wp2
        all_goals refine bodyPost_ret (v := .tuple #[(.agg #[.slice (U 0).a (U 0).n (U 0).c, .slice (U 1).a (U 1).n (U 1).c, .slice (U 2).a (U 2).n (U 2).c]), (.agg #[.slice (V 0).a (V 0).n (V 0).c, .slice (V 1).a (V 1).n (V 1).c, .slice (V 2).a (V 2).n (V 2).c]), .int .i64 0]) ?_ rfl ?_
        all_goals first
          | ((with_reducible refine E.out _ ?_); rfl)
          | simp [results, Tryz.results32, go_sem, x0, x1, x2, z0, z1, z2]
      · obtain ⟨m', hm'⟩ : ∃ m', (U 2).n = m' + 1 := ⟨(U 2).n - 1, by omega⟩
        have dz : decide (0 < (((U 2).n : Nat) : Int)) = true := by simp; omega
        have dz2 : decide (0 < (U 2).n) = true := by simp; omega
        have hj' : (f 2).length - j = m' + 1 := by omega
        have hbd : ∀ i, i < 3 → (U i).n ≤ 2000000 := by
          intro i hi
          have h1 := HC.out.l3.len i hi
          by_cases e : i = 2
          · rw [e] at h1 ⊢
            omega
          · rw [upd_other _ _ e] at h1
            have h2 := HFL.out i hi
            have h3 := HNN.out i hi
            omega
        have hVn : (V 2).n + 1 ≤ 4000000 := by
          have := HC.out.lst.len (k := 2) (by decide)
          rw [upd_same, List.length_append, List.length_reverse, List.length_drop] at this
          omega
        have hbig := HC.out.lst.big
        have HJ := Lib.hid (And.intro hj' (And.intro hm' hbd))
        clear h0 hz hUn hj' hm' hbd
        go_wp2_with fail
        refine (rpop_ok wr.heap.size U _ 2 (by decide) m' wr HC.out.l3 (Nat.le_refl _) HJ.out.2.2 HJ.out.2.1).mono ?_
        rintro e w6 ⟨p, rfl, hp, hb6, hn6⟩
        rw [mv_take HJ.out.1] at hp
        obtain ⟨x, hx⟩ : ∃ x, x = (upd f 2 ((f 2).take ((f 2).length - j)) 2).getD m' 0 := ⟨_, rfl⟩
        rw [← hx]
        obtain ⟨R8, h8⟩ := HC.out.popped hp hb6 hn6
        have A6 := XA.next hb6
        have D6 := HC.out.lst.boxed.next hb6
        have hne := HC.out.ne
        have a0 := A6.cell 0 (by decide)
        have a1 := A6.cell 1 (by decide)
        have a2 := A6.cell 2 (by decide)
        have g0 := A6.free 0
        have g1 := A6.free 1
        have g2 := A6.free 2
        have al := A6.lt
        have b0 := D6.cell 2 (by decide)
        have bf := D6.free 2
        have bl := D6.lt
        have hw6 : w.heap.size ≤ w6.heap.size := Nat.le_trans hbig hb6.size
        have H8 := Lib.hid h8
        have HXX := Lib.hid hx
        clear c0 c1 c2 cl XA A6 D6 hp hb6 hn6 h8 hx dz dz2
        go_wp2_with (at_builtin; refine list_cat rfl (.tmp 52) (.tmp 54) rfl rfl rfl (H8.out.lst.row _ (by decide)) (row_lit8 w6 d1 p x) (by simp [World.setCell]; omega) (by omega) ?_)
        intro p' cp' w9 hc
        obtain ⟨R9, h9⟩ := H8.out.cat (k := 2) (by decide) hc
        obtain ⟨M9, _⟩ := H8.out.lst.mid (k := 2) (by decide) hc
        have k0 := M9.cell 2 (by decide)
        have kf := M9.free 2
        have kl := M9.lt
        have H9 := Lib.hid h9
        clear hc h9 M9 a0 a1 a2 g0 g1 g2 al b0 bf bl
        go_wp2
        go_roundw
        case rel =>
          have h9 := H9.out
          rw [HXX.out, mv_drop rfl HJ.out.1] at h9
          exact ⟨j + 1, r', p, _, R9, by omega, by have := HJ.out.1; omega, by go_num, Lib.hid h9⟩
        case measure => simp [intOf]
theorem rmove_new (B : Nat) (u v : Nat → Sl) (f g : Nat → List Int) (k m : Nat) (hk : k < 3) (w : World) (h : L3 w B u f) (h' : L3 w B v g) (hB : B ≤ w.heap.size) (hn : ∀ j, j < 3 → (u j).n ≤ 1000000) (hn' : ∀ j, j < 3 → (v j).n ≤ 1000000) (hm : m ≤ 9223372036854775807) :
    Calls Tryz.prog 32 #[(.agg #[.slice (u 0).a (u 0).n (u 0).c, .slice (u 1).a (u 1).n (u 1).c, .slice (u 2).a (u 2).n (u 2).c]), (.agg #[.slice (v 0).a (v 0).n (v 0).c, .slice (v 1).a (v 1).n (v 1).c, .slice (v 2).a (v 2).n (v 2).c]), .int .i64 k, .int .i64 m] w (MoveNew w (upd f k ((f k).take ((f k).length - m))) (upd g k (g k ++ ((f k).drop ((f k).length - m)).reverse)) 0) := by
  rcases (show k = 0 ∨ k = 1 ∨ k = 2 by omega) with rfl | rfl | rfl
  · exact rmove_new0 B u v f g m w h h' hB hn hn' hm
  · exact rmove_new1 B u v f g m w h h' hB hn hn' hm
  · exact rmove_new2 B u v f g m w h h' hB hn hn' hm
end Go.Proofs.YtdmclfolooiccaaGreatDoor.Ls
