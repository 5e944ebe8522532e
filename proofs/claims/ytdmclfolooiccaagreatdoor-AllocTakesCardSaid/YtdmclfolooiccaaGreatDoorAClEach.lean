/-
  Package cells' each and each$1: the iterator over all cells of pages has the contract of XSep.
-/
import Derived.Test.YtdmclfolooiccaaGreatDoorHpAF
namespace Go.Proofs.YtdmclfolooiccaaGreatDoor.Cl
open Go.Proofs.YtdmclfolooiccaaGreatDoor
set_option maxRecDepth 100000
open Go.RowKit Go.Shelf
attribute [local go_sem] Oper.semAt_some

/-- The cells of the first k pages; of pages that may be, or none. -/
def cellsL (f : Nat → Int × Int) : Nat → List (Int × Int)
  | 0 => []
  | k + 1 => cellsL f k ++ pageL k (numOf (f k)) (roomOf (f k))
def allL (f : Nat → Int × Int) (n : Nat) : List (Int × Int) := if mayB f n = true then cellsL f n else []
theorem cellsL_succ (f : Nat → Int × Int) (k : Nat) : cellsL f (k + 1) = cellsL f k ++ pageL k (numOf (f k)) (roomOf (f k)) := rfl
theorem cellsL_prefix (f : Nat → Int × Int) {j : Nat} : ∀ {k : Nat}, j ≤ k → cellsL f j <+: cellsL f k
  | 0, h => by obtain rfl : j = 0 := by omega
               exact List.prefix_refl _
  | k + 1, h => by
    by_cases e : j = k + 1
    · subst e; exact List.prefix_refl _
    · exact (cellsL_prefix f (k := k) (by omega)).trans (List.prefix_append _ _)
theorem cellsL_in {f : Nat → Int × Int} {k n : Nat} (hk : k < n) {pre : List (Int × Int)} {x : Int × Int} (h : pre ++ [x] <+: pageL k (numOf (f k)) (roomOf (f k))) : (cellsL f k ++ pre) ++ [x] <+: cellsL f n := by
  refine List.IsPrefix.trans ?_ (cellsL_prefix f (j := k + 1) hk)
  rw [List.append_assoc, cellsL_succ]
  exact (List.prefix_append_right_inj _).2 h

theorem each_any (A : Option Addr) (n c : Nat) (w : World) :
    Calls Tryz.prog 107 #[.slice A n c] w fun e w' => e = .returned (.func (.func 123) #[] #[.pointer (some ⟨w.heap.size, 0, none⟩)]) ∧ w' = w.alloc (.cells #[.slice A n c] 23) := by
  go_enter Tryz.func107, Tryz.ntmps107
  go_wp2
  go_ret
  exact ⟨rfl, rfl⟩

/-- Between two pages: what the walk over all cells holds. -/
structure Going (n₀ : Nat) (W : World) (J : List (Int × Int) → World → Prop) (L : (Nat → Int × Int) → Nat → List (Int × Int)) (f : Nat → Int × Int) (n : Nat) (A : Option Addr) (c b l y : Nat) (M : Nat → Prop) (ds : List Nat) (k : Nat) (wr : World) : Prop where
  le : k ≤ n
  j : J (L f k) wr
  my : M y
  mb : M b ∨ b < n₀
  y : wr.cell? ⟨y, 0, none⟩ = some (.func (.yield l) #[] #[])
  d : wr.cell? ⟨b, 0, none⟩ = some (.slice A n c)
  bel : Below n₀ W wr
  nd : ds.Nodup
  ds : ∀ D ∈ ds, M D ∧ n₀ ≤ D ∧ wr.heap[D]? = some (.deferred (some []))

/-- .. and between two cells of a page. -/
structure Within (n₀ : Nat) (W : World) (J : (Nat → Prop) → List (Int × Int) → World → Prop) (done : List (Int × Int)) (A : Option Addr) (n c b l y : Nat) (M : Nat → Prop) (ds : List Nat) (M' : Nat → Prop) (pre : List (Int × Int)) (V : World) : Prop where
  j : J (fun k => M k ∨ M' k) (done ++ pre) V
  my : M y ∧ ¬ M' y
  mb : (M b ∨ b < n₀) ∧ ¬ M' b
  y : V.cell? ⟨y, 0, none⟩ = some (.func (.yield l) #[] #[])
  d : V.cell? ⟨b, 0, none⟩ = some (.slice A n c)
  bel : Below n₀ W V
  nd : ds.Nodup
  ds : ∀ D ∈ ds, M D ∧ ¬ M' D ∧ n₀ ≤ D ∧ V.heap[D]? = some (.deferred (some []))
theorem Within.bides {n₀ : Nat} {W : World} {J : (Nat → Prop) → List (Int × Int) → World → Prop} {done : List (Int × Int)} {A : Option Addr} {n c b l y : Nat} {M : Nat → Prop} {ds : List Nat} (h : Bides n₀ J) :
    Bides n₀ (Within n₀ W J done A n c b l y M ds) := by
  intro M' M'' pre V V' hw hb hs hm
  have hy := World.block_lt_of_cell? V _ hw.y
  have hd := World.block_lt_of_cell? V _ hw.d
  have no : ∀ k, k < V.heap.size → ¬ M' k → ¬ M'' k := fun k hk hn h => by
    rcases hm k h with h | h
    · exact hn h
    · omega
  refine ⟨h _ _ _ V V' hw.j hb (fun k hk hn => hs k hk (fun h => hn (.inr h))) (fun k hk => ?_), ⟨hw.my.1, no _ hy hw.my.2⟩, ⟨hw.mb.1, no _ hd hw.mb.2⟩, (World.cell?_of_block (a := ⟨y, 0, none⟩) (hs _ hy hw.my.2)).trans hw.y, (World.cell?_of_block (a := ⟨b, 0, none⟩) (hs _ hd hw.mb.2)).trans hw.d, hw.bel.trans hb, hw.nd, fun D hD => ?_⟩
  · rcases hk with hk | hk
    · exact .inl (.inl hk)
    · exact (hm k hk).imp .inr id
  · obtain ⟨h1, h2, h3, h4⟩ := hw.ds D hD
    have hlt := (Array.getElem?_eq_some_iff.1 h4).1
    exact ⟨h1, no _ hlt h2, h3, (hs _ hlt h2).trans h4⟩
theorem Within.round {n₀ : Nat} {W : World} {J J' : (Nat → Prop) → List (Int × Int) → World → Prop} {done : List (Int × Int)} {A : Option Addr} {n c b l y : Nat} {M : Nat → Prop} {ds : List Nat} {M' : Nat → Prop} {pre pre' : List (Int × Int)} {V V' : World}
    (hw : Within n₀ W J done A n c b l y M ds M' pre V) (hk : Kept n₀ (fun i => M i ∨ M' i) V V') (hj : J' (fun i => M i ∨ M' i) (done ++ pre') V') : Within n₀ W J' done A n c b l y M ds M' pre' V' := by
  refine ⟨hj, hw.my, hw.mb, hk.cell (.inl (.inl hw.my.1)) hw.y, hk.cell (hw.mb.1.imp .inl id) hw.d, hw.bel.trans hk.1, hw.nd, fun D hD => ?_⟩
  obtain ⟨h1, h2, h3, h4⟩ := hw.ds D hD
  exact ⟨h1, h2, h3, (hk.2 D (.inl h1) (Array.getElem?_eq_some_iff.1 h4).1).trans h4⟩
/-- A word of the caller's behind the marks' blocks. -/
theorem Bides.left {α : Type} {n₀ : Nat} {J : (Nat → Prop) → List α → World → Prop} (h : Bides n₀ J) {M : Nat → Prop} {pre : List α} {W W' : World} {ds : List Nat} (hj : J M pre W) (hd : ∀ D ∈ ds, M D ∧ n₀ ≤ D)
    (h1 : W'.os = W.os) (h2 : W'.tape = W.tape) (h3 : W'.output = W.output) (h4 : W'.heap.size = W.heap.size) (h5 : ∀ k, k ∉ ds → W'.heap[k]? = W.heap[k]?) : J M pre W' :=
  h M M pre W W' hj ⟨h1, h2, h3, by omega, fun k hk => h5 k (fun hm => by have := (hd k hm).2; omega)⟩ (fun k _ hn => h5 k (fun hm => hn (hd k hm).1)) (fun _ hk => .inl hk)

set_option maxRecDepth 100000 in
set_option maxHeartbeats 1000000 in
theorem each_gives (B n₀ : Nat) (A : Option Addr) (n c b : Nat) (f : Nat → Int × Int) (w : World) (hn : n ≤ 1000) (hz : Sz w) (hr : PRow w B A n f) (hB : B ≤ n₀) (hp : 0 < n₀) (hn₀ : n₀ ≤ w.heap.size)
    (hb : w.cell? ⟨b, 0, none⟩ = some (.slice A n c)) :
    Gives Tryz.prog 123 #[.pointer (some ⟨b, 0, none⟩)] encC n₀ (fun k => k = b) (allL f n) w := by
  intro l J Jx M0 W hW hC hBJ hBX hY hJ0
  have lb : b < w.heap.size := World.block_lt_of_cell? w _ hb
  have cb : W.cell? ⟨b, 0, none⟩ = some (.slice A n c) := (hW.cell (p := ⟨b, 0, none⟩) lb).trans hb
  have HZ := Lib.hid (hz.over hW hz.pos)
  have HR := Lib.hid (hr.over hW (by omega))
  have hnW : n₀ ≤ W.heap.size := by have := hW.size; omega
  have HY := Lib.hid hY
  have HJ := Lib.hid hJ0
  have HC := Lib.hid (hC b rfl)
  have HBJ := Lib.hid hBJ
  have HBX := Lib.hid hBX
  have lbW : b < W.heap.size := by have := hW.size; omega
  clear hY hJ0 hC hW hb hBJ hBX hz hr
  have HZ1 : Hid (Sz (W.alloc (.cells #[.func (.yield l) #[] #[]] 114))) := Lib.hid (HZ.out.alloc _)
  have HR1 : Hid (PRow (W.alloc (.cells #[.func (.yield l) #[] #[]] 114)) B A n f) := Lib.hid (HR.out.alloc _ (by omega))
  refine (callsIn_wide (n := 1)).1 ?_
  refine callsIn_of_wp_marks Tryz.func123 rfl trivial ?_ rfl
  simp only [Tryz.ntmps123, List.size_toArray, List.length_cons, List.length_nil, Nat.reduceAdd, Nat.reduceSub, Array.replicate_succ, Array.replicate_zero, List.push_toArray, List.append_toArray, List.nil_append, List.cons_append]
  cases hM : mayB f n
  · have HM := Lib.hid hM
    have HL := Lib.hid (show allL f n = [] from if_neg (by rw [hM]; decide))
    clear hM
    gi_wp2_with fail
    refine ⟨trivial, (callsIn_wide.2 (may_no B _ _ _ _ _ HM.out hn HR1.out (by simp; omega))).mono ?_⟩
    rintro e w1 ⟨rfl, hb1⟩
    have HB := Lib.hid (below_pair (Below.refl W.heap.size W) hb1)
    clear hb1
    gi_wp2
    refine ⟨_, results_none rfl _ _ _, ⟨_, rfl⟩, M0, .inl ?_⟩
    rw [HL.out]
    exact HBJ.out.more HJ.out HB.out hnW (fun k hk => .inl hk)
  · have HM := Lib.hid hM
    have HL := Lib.hid (show allL f n = cellsL f n from if_pos hM)
    have hn64 := ((mayB_iff f n).1 hM).2.1
    clear hM
    gi_wp2_with fail
    refine ⟨trivial, (callsIn_wide.2 (may_yes B _ _ _ _ _ HM.out HR1.out (by simp; omega))).mono ?_⟩
    rintro e w1 ⟨rfl, hb1⟩
    have y1 : w1.cell? ⟨W.heap.size, 0, none⟩ = some (.func (.yield l) #[] #[]) := (hb1.cell (p := ⟨W.heap.size, 0, none⟩) (by simp)).trans (by simp [go_sem])
    have d1 : w1.cell? ⟨b, 0, none⟩ = some (.slice A n c) := by
      refine (hb1.cell (p := ⟨b, 0, none⟩) (by simp; omega)).trans ?_
      exact (((Below.refl W.heap.size W).alloc (Nat.le_refl _) _).cell (p := ⟨b, 0, none⟩) lbW).trans cb
    have hs1 : W.heap.size < w1.heap.size := by have := hb1.size; simp at this; omega
    have HB := Lib.hid (below_pair (Below.refl W.heap.size W) hb1)
    have HZ2 := Lib.hid (HZ1.out.over hb1 (by simp))
    have HR2 := Lib.hid (HR1.out.over hb1 (by simp; omega))
    clear hb1 cb
    gi_wp2
    refine wpIn_loop (fun a wr => ∃ (k : Nat) (u3 u11 u12 u13 u14 u15 u21 : Value) (M : Nat → Prop) (ds : List Nat),
        Hid (Going n₀ W (J M) cellsL f n A c b l W.heap.size M ds k wr) ∧
        a = { tmps := #[.func (.yield l) #[] #[], .pointer (some ⟨b, 0, none⟩), .pointer (some ⟨W.heap.size, 0, none⟩), u3, undef, .slice A n c, .bool true, .bool false, .slice A n c, .int .i64 n, .int .i64 k,
          u11, u12, u13, u14, u15, undef, undef, undef, undef, undef, u21], defers := ds.map fun D => { target := .collected D, args := #[] } })
      (fun a _ => n - (intOf (a.tmps.getD 10 undef)).toNat) ?_ ?_
    · refine ⟨0, _, _, _, _, _, _, _, fun k => M0 k ∨ k = W.heap.size, [], Lib.hid ⟨Nat.zero_le _, ?_, .inr rfl, HC.out.imp .inl id, y1, d1, HB.out.mono hnW, by simp, by simp⟩, rfl⟩
      refine HBJ.out.more HJ.out HB.out hnW ?_
      rintro k (hk | rfl)
      · exact .inl hk
      · exact .inr ⟨Nat.le_refl _, hs1⟩
    · rintro _ wr ⟨k, u3, u11, u12, u13, u14, u15, u21, M, ds, HG, rfl⟩
      clear y1 d1 HJ
      have hG := HG.out
      have y1 := hG.y
      have d1 := hG.d
      have hsz := hG.bel.size
      have hkn := hG.le
      have HRk := Lib.hid (HR.out.over hG.bel hB)
      have HZk := Lib.hid (HZ.out.over hG.bel hp)
      clear hG
      by_cases hlt : k < n
      · have HPk := Lib.hid ((okB_iff f k).1 (((mayB_iff f n).1 HM.out).2.2.1 k hlt)).1
        gi_wp2_with fail
        refine ⟨trivial, (callsIn_wide.2 (on_any B _ _ _ f k wr HZk.out hn hlt HPk.out HRk.out (by omega))).mono ?_⟩
        rintro e w2 ⟨b0, b1, b2, rfl, ⟨g0, g1, g2⟩, c0, c1, c2, hb2⟩
        have HB2 := Lib.hid hb2
        have hz2 := hb2.size
        have lb0 : b0 < w2.heap.size := World.block_lt_of_cell? w2 _ c0
        have lb1 : b1 < w2.heap.size := World.block_lt_of_cell? w2 _ c1
        have lb2 : b2 < w2.heap.size := World.block_lt_of_cell? w2 _ c2
        have HI : Hid (Within n₀ W J (cellsL f k) A n c b l W.heap.size M ds (fun i => i = b0 ∨ i = b1 ∨ i = b2) [] w2) := by
          have hG := HG.out
          have hy := World.block_lt_of_cell? wr _ y1
          have hd := World.block_lt_of_cell? wr _ d1
          refine ⟨?_, ⟨hG.my, by simp only at hy; omega⟩, ⟨hG.mb, by simp only at hd; omega⟩, (hb2.cell (p := ⟨W.heap.size, 0, none⟩) hy).trans y1, (hb2.cell (p := ⟨b, 0, none⟩) hd).trans d1, hG.bel.trans (hb2.mono (by omega)), hG.nd, fun D hD => ?_⟩
          · rw [List.append_nil]
            refine HBJ.out.more hG.j hb2 (by omega) (fun i hi => ?_)
            rcases hi with hi | rfl | rfl | rfl
            · exact .inl hi
            · exact .inr ⟨g0, lb0⟩
            · exact .inr ⟨g1, lb1⟩
            · exact .inr ⟨g2, lb2⟩
          · obtain ⟨h1, h2, h3⟩ := hG.ds D hD
            have hlt := (Array.getElem?_eq_some_iff.1 h3).1
            exact ⟨h1, by omega, h2, (hb2.block D hlt).trans h3⟩
        have HS := Lib.hid (on_gives n₀ k (numOf (f k)) (roomOf (f k)) b0 b1 b2 w2 (by omega) (num_room HPk.out).1 (num_room HPk.out).2.1 (num_room HPk.out).2.2 c0 c1 c2)
        clear hb2 c0 c1 c2 y1 d1
        gi_wp2
        refine range_gives (gf := 135) rfl (enters_of Tryz.func135 (by kernel_rfl) rfl) HS.out (fun _ => rfl) (by omega) (fun i => i = b0 ∨ i = b1 ∨ i = b2) (fun _ h => .inl h) (by rintro i (rfl | rfl | rfl) <;> assumption)
          (Within n₀ W J (cellsL f k) A n c b l W.heap.size M ds) (fun code M' pre V => code = .ret ∧ Within n₀ W Jx (cellsL f k) A n c b l W.heap.size M ds M' pre V) (Within.bides HBJ.out)
          (fun code M' M'' pre V V' hj hb hs hm => ⟨hj.1, Within.bides HBX.out M' M'' pre V V' hj.2 hb hs hm⟩) HI.out ?round ?done ?stop
        case round =>
          intro l2 M' pre x V hl2 hM2 hlt2 hpre hw
          obtain ⟨q, r⟩ := x
          have HW := Lib.hid hw
          have HP := Lib.hid (cellsL_in (n := n) hlt hpre)
          clear hw hpre
          dsimp only [encC]
          gi_wp2
          refine ⟨⟨(Below.refl _ _).alloc (by have := HW.out.bel.size; omega) _, fun i _ hi => Below.heap_alloc _ _ _ hi⟩, fun o => ?_⟩
          obtain ⟨V2, hV2⟩ : ∃ V2, V2 = (V.alloc (.cells #[.int .i64 q, .int .i64 r] 111)).putObj l2 o := ⟨_, rfl⟩
          rw [← hV2]
          have hb2 : Below n₀ V V2 := by rw [hV2]; exact ((Below.refl _ _).alloc (by have := HW.out.bel.size; omega) _).trans (below_turned _ (by omega))
          have hs2 : ∀ i, i < V.heap.size → i ≠ l2 → V2.heap[i]? = V.heap[i]? := fun i hi hn => by rw [hV2]; exact (World.putObj_heap_other hn).trans (Below.heap_alloc _ _ _ hi)
          have HW2 := Lib.hid (Within.bides HBJ.out M' M' pre V V2 HW.out hb2 (fun i hi hn => hs2 i hi (fun e => hn (e ▸ hM2))) (fun i hi => .inl hi))
          have e0 : V2.cell? ⟨V.heap.size, 0, none⟩ = some (.int .i64 q) := by
            rw [hV2, World.cell?_of_block (a := ⟨V.heap.size, 0, none⟩) (World.putObj_heap_other (w := V.alloc _) (k := V.heap.size) (by omega))]
            simp [go_sem]
          have e1 : V2.cell? ⟨V.heap.size, 1, none⟩ = some (.int .i64 r) := by
            rw [hV2, World.cell?_of_block (a := ⟨V.heap.size, 1, none⟩) (World.putObj_heap_other (w := V.alloc _) (k := V.heap.size) (by omega))]
            simp [go_sem]
          clear hV2 hb2 hs2
          have y2 := HW2.out.y
          obtain ⟨fn, tmps, assign, body, hy, hR⟩ := HY.out (fun i => M i ∨ M' i) _ (q, r) V2 (by rw [HL.out]; exact HP.out) HW2.out.j
          have HRR := Lib.hid hR
          dsimp only [encC] at hy
          clear hR
          gi_wp2
          refine (roundIn_inner l2 HRR.out).mono ?_
          rintro e W3 ⟨hk3, (⟨rfl, hJ3⟩ | ⟨rfl, hx3⟩)⟩
          · have HK := Lib.hid hk3
            have HJ3 := Lib.hid hJ3
            clear hk3 hJ3 hy HRR
            gi_wp2
            exact ⟨HK.out.less (fun _ h => .inr h), HW2.out.round HK.out (by rw [← List.append_assoc]; exact HJ3.out)⟩
          · have HK := Lib.hid hk3
            have HX := Lib.hid hx3
            clear hk3 hx3 hy HRR
            gi_wp2
            exact ⟨HK.out.less (fun _ h => .inr h), rfl, HW2.out.round HK.out (by rw [← List.append_assoc]; exact HX.out)⟩
        case done =>
          intro D M' V hD hDV hMD hw hdef
          have HG2 : Hid (Going n₀ W (J (fun i => M i ∨ M' i)) cellsL f n A c b l W.heap.size (fun i => M i ∨ M' i) (D :: ds) (k + 1) V) := Lib.hid ⟨hlt, by rw [cellsL_succ]; exact hw.j, .inl hw.my.1, hw.mb.1.imp .inl id, hw.y, hw.d, hw.bel,
            List.nodup_cons.2 ⟨fun h => (hw.ds D h).2.1 hMD, hw.nd⟩, by
              intro E hE
              rcases List.mem_cons.1 hE with rfl | hE
              · exact ⟨.inr hMD, by omega, hdef⟩
              · obtain ⟨h1, h2, h3, h4⟩ := hw.ds E hE
                exact ⟨.inl h1, h3, h4⟩⟩
          clear hw hdef
          dsimp only
          gi_wp2
          exact ⟨⟨k + 1, _, _, _, _, _, _, _, _, D :: ds, HG2, rfl⟩, by simp [intOf]; omega⟩
        case stop =>
          rintro D _ M' pre V hD hDV hMD ⟨rfl, hw⟩ hdef
          have HW := Lib.hid hw
          clear hw
          dsimp only
          gi_wp2
          refine leave_marks (D :: ds) V (List.nodup_cons.2 ⟨fun h => (HW.out.ds D h).2.1 hMD, HW.out.nd⟩) ?_ (fun W' h1 h2 h3 h4 h5 => ⟨_, results_none rfl _ _ _, ⟨_, rfl⟩, (fun i => M i ∨ M' i), .inr ⟨cellsL f k ++ pre, ?_⟩⟩)
          · intro E hE
            rcases List.mem_cons.1 hE with rfl | hE
            · exact hdef
            · exact (HW.out.ds E hE).2.2.2
          · refine HBX.out.left HW.out.j (ds := D :: ds) (fun E hE => ?_) h1 h2 h3 h4 h5
            rcases List.mem_cons.1 hE with rfl | hE
            · exact ⟨.inr hMD, by omega⟩
            · exact ⟨.inl (HW.out.ds E hE).1, (HW.out.ds E hE).2.2.1⟩
      · obtain rfl : k = n := by omega
        gi_wp2
        refine leave_marks ds wr HG.out.nd (fun D hD => (HG.out.ds D hD).2.2) (fun W' h1 h2 h3 h4 h5 => ⟨_, results_none rfl _ _ _, ⟨_, rfl⟩, M, .inl ?_⟩)
        rw [HL.out]
        exact HBJ.out.left HG.out.j (fun D hD => ⟨(HG.out.ds D hD).1, (HG.out.ds D hD).2.1⟩) h1 h2 h3 h4 h5
end Go.Proofs.YtdmclfolooiccaaGreatDoor.Cl
