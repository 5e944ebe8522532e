/-
  The chapter's example of package heap, as every statement of the stage asks it first.
-/
import Derived.Test.YthgcaehhjiccbaaGreatDoorZHpNewP
import Derived.Test.YthgcaehhjiccbaaGreatDoorZHpWholeP
import Derived.Test.YthgcaehhjiccbaaGreatDoorZHpHeadP
import Derived.Deep.CutRange
namespace Go.Proofs.YthgcaehhjiccbaaGreatDoor
open Go.RowKit
set_option maxRecDepth 100000

theorem make_ints (n : Nat) (h : n ≤ 1000) (w : World) : (Instr.makeSlice 22 (.int .i64 (n : Int)) (.int .i64 (n : Int))).run Tryz.prog w = .ok (.slice (some ⟨w.heap.size, 0, none⟩) n n) (w.alloc (.cells (madeCells #[.int .i64 0] n) 3)) := by
  obtain ⟨i0, hi, hz0, hz1, hz2⟩ := info_parts Ls.info_int1
  have := run_make (P := Tryz.prog) w 22 3 i0 _ Tryz.underlying22 hi hz0 .i64 .i64 n n (by omega) (Int.le_refl _) (by rw [hz2]; omega) (by omega)
  rw [hz1] at this
  simpa [Value.cells] using this
def sM (g gp gc : Nat) : Hs := ⟨⟨some ⟨g, 0, none⟩, 16, 16⟩, ⟨some ⟨gp, 0, none⟩, 1, 1⟩, Ls.noSl, ⟨some ⟨gc, 0, none⟩, 2, 2⟩⟩
def wsM : List Int := [0, 0, 0, 0, 0, 0, 0, 0, 41, 0, 0, 0, 0, 0, 0, 0]
theorem wsM_at : ∀ i, i < 16 → wsM.getD i 0 = if i = 8 then 41 else 0 := by decide
theorem rep0 (n i : Nat) : (List.replicate n (0 : Int)).getD i 0 = 0 := by by_cases h : i < n <;> simp [List.getD, h]
def dM : Hd_ := ⟨wsM, fun _ => (1, 2), Ls.noLists, fun _ => false⟩
/-- What the example's heap lies in. -/
structure AwM (w wc : World) (b g gp gc : Nat) : Prop where
  hb : wc.heap[b]? = some (.cells #[.slice (some ⟨g, 0, none⟩) 16 16, .slice (some ⟨gp, 0, none⟩) 1 1, .slice none 0 0, .slice none 0 0, .slice none 0 0, .slice (some ⟨gc, 0, none⟩) 2 2] 28)
  hg : wc.heap[g]? = some (.cells (madeCells #[.int .i64 0] 16) 3)
  hp : wc.heap[gp]? = some (.cells #[.int .i64 1, .int .i64 2] 61)
  hc : wc.heap[gc]? = some (zBools 2)
  ap : ¬ g = gp ∧ ¬ g = gc ∧ ¬ g = b
  old : w.heap.size ≤ g
  bel : Below w.heap.size w wc
theorem four (W : World) (o1 o2 o3 o4 : Obj) : ((((W.alloc o1).alloc o2).alloc o3).alloc o4).heap[W.heap.size]? = some o1 ∧ ((((W.alloc o1).alloc o2).alloc o3).alloc o4).heap[W.heap.size + 1]? = some o2 ∧
    ((((W.alloc o1).alloc o2).alloc o3).alloc o4).heap[W.heap.size + 1 + 1]? = some o3 ∧ ((((W.alloc o1).alloc o2).alloc o3).alloc o4).heap[W.heap.size + 1 + 1 + 1]? = some o4 := by
  refine ⟨?_, ?_, ?_, ?_⟩
  · rw [Below.heap_alloc _ _ _ (by simp only [World.size_alloc]; omega), Below.heap_alloc _ _ _ (by simp only [World.size_alloc]; omega), Below.heap_alloc _ _ _ (by simp only [World.size_alloc]; omega)]
    exact World.alloc_heap_new W o1
  · rw [Below.heap_alloc _ _ _ (by simp only [World.size_alloc]; omega), Below.heap_alloc _ _ _ (by simp only [World.size_alloc]; omega)]
    have := World.alloc_heap_new (W.alloc o1) o2
    rwa [World.size_alloc] at this
  · rw [Below.heap_alloc _ _ _ (by simp)]
    have := World.alloc_heap_new ((W.alloc o1).alloc o2) o3
    rwa [World.size_alloc, World.size_alloc] at this
  · have := World.alloc_heap_new (((W.alloc o1).alloc o2).alloc o3) o4
    rwa [World.size_alloc, World.size_alloc, World.size_alloc] at this
theorem four_below (W : World) (o1 o2 o3 o4 : Obj) (q : Nat) : Below W.heap.size W (((((W.alloc o1).alloc o2).alloc o3).alloc o4).drewN q) :=
  below_drawn' (((((Below.refl _ _).alloc (Nat.le_refl _) o1).alloc (by simp) o2).alloc (by simp; omega) o3).alloc (by simp; omega) o4) q
theorem aw_box {w wc : World} {b g gp gc : Nat} (h : AwM w wc b g gp gc) : HBox wc b (sM g gp gc) := by
  have := h.hb
  exact ⟨by simp [World.cell?, this, sM], by simp [World.cell?, this, sM], by simp [World.cell?, this, sM, Ls.noSl], by simp [World.cell?, this, sM, Ls.noSl], by simp [World.cell?, this, sM, Ls.noSl], by simp [World.cell?, this, sM], (Array.getElem?_eq_some_iff.1 this).1⟩
theorem aw_word {w wc : World} {b g gp gc : Nat} (h : AwM w wc b g gp gc) : wc.cell? ⟨g, 8, none⟩ = some (.int .i64 0) ∧ wc.frozen? ⟨g, 8, none⟩ = false ∧ g < wc.heap.size := by
  have := h.hg
  exact ⟨by simp [World.cell?, this, madeCells], by simp [World.frozen?, this], (Array.getElem?_eq_some_iff.1 this).1⟩
theorem aw_store {w wc : World} {b g gp gc : Nat} (h : AwM w wc b g gp gc) :
    HBox (wc.setCell ⟨g, 8, none⟩ (.int .i64 41)) b (sM g gp gc) ∧ Hp (wc.setCell ⟨g, 8, none⟩ (.int .i64 41)) (wc.setCell ⟨g, 8, none⟩ (.int .i64 41)).heap.size (sM g gp gc) dM ∧ Below w.heap.size w (wc.setCell ⟨g, 8, none⟩ (.int .i64 41)) := by
  have hs : ∀ k, ¬ k = g → (wc.setCell ⟨g, 8, none⟩ (.int .i64 41)).heap[k]? = wc.heap[k]? := fun k hk => Below.heap_setCell _ _ _ _ hk
  have hz : (wc.setCell ⟨g, 8, none⟩ (.int .i64 41)).heap.size = wc.heap.size := by simp [World.setCell]
  obtain ⟨a1, a2, a3⟩ := h.ap
  refine ⟨(aw_box h).same (hs b (fun e => a3 e.symm)) (by rw [hz]; exact Nat.le_refl _), ⟨⟨rfl, fun _ => ⟨g, 0, rfl, by rw [hz]; exact (aw_word h).2.2, fun i hi => ?_⟩⟩, fun _ => ⟨gp, 0, rfl, by rw [hz]; exact (Array.getElem?_eq_some_iff.1 h.hp).1, fun i hi => ?_⟩, Ls.L3.none_ _ _, fun _ => ⟨gc, 0, rfl, by rw [hz]; exact (Array.getElem?_eq_some_iff.1 h.hc).1, fun i hi => ?_⟩⟩, h.bel.setCell (p := ⟨g, 8, none⟩) h.old _⟩
  · have hi' : i < 16 := hi
    by_cases e : i = 8
    · subst e
      have := World.cell?_setCell_same' wc ⟨g, 8, none⟩ (.int .i64 41) (by rw [(aw_word h).1]; rfl)
      simpa [dM, wsM] using this
    · rw [World.cell?_setCell_other _ _ _ _ (by intro hh; simp only [Addr.mk.injEq, true_and, and_true] at hh; omega)]
      have h2 : wc.cell? ⟨g, 0 + i, none⟩ = some (.int .i64 0) := by simp [World.cell?, h.hg, madeCells, hi', Nat.mod_one]
      rw [h2]
      have : wsM.getD i 0 = 0 := by rw [wsM_at i hi', if_neg e]
      show _ = some (Value.int .i64 (wsM.getD i 0))
      rw [this]
  · obtain rfl : i = 0 := by have : i < 1 := hi; omega
    constructor
    · rw [World.cell?_of_block (a := ⟨gp, 0 + 0 * 2, none⟩) (hs gp (fun e => a1 e.symm))]
      simp [World.cell?, h.hp, dM]
    · rw [World.cell?_of_block (a := ⟨gp, 0 + 0 * 2 + 1, none⟩) (hs gp (fun e => a1 e.symm))]
      simp [World.cell?, h.hp, dM]
  · have hi' : i < 2 := hi
    rw [World.cell?_of_block (a := ⟨gc, 0 + i, none⟩) (hs gc (fun e => a2 e.symm))]
    simp [World.cell?, h.hc, zBools, madeCells, hi', Nat.mod_one, dM]
def dZ : Hd_ := ⟨List.replicate 32 0, fun _ => (0, 0), Ls.noLists, fun _ => false⟩
def dK : Hd_ := ⟨wsM, fun _ => (1, 2), fun j => if j = 2 then [16] else [], fun _ => false⟩
def sH (g cw : Nat) (A C : Option Addr) : Hs := ⟨⟨some ⟨g, 0, none⟩, 16 * 2, cw⟩, ⟨A, 2, 2⟩, Ls.noSl, ⟨C, 2 * 2, 2 * 2⟩⟩
def sK (g gp gc l : Nat) : Hs := ⟨⟨some ⟨g, 0, none⟩, 16, 16⟩, ⟨some ⟨gp, 0, none⟩, 1, 1⟩, (fun j => if j = 2 then ⟨some ⟨l, 0, none⟩, 1, 1⟩ else ⟨none, 0, 0⟩), ⟨some ⟨gc, 0, none⟩, 2, 2⟩⟩
theorem fine_M (g gp gc : Nat) : Fine (sM g gp gc) dM := by
  refine ⟨by show (16 : Nat) ≤ 4000; omega, by show (1 : Nat) ≤ 200; omega, by show (2 : Nat) ≤ 100000; omega, fun i => ?_, by decide⟩
  show -9223372036854775808 ≤ wsM.getD i 0 ∧ wsM.getD i 0 ≤ 9223372036854775807
  have : wsM.getD i 0 = 0 ∨ wsM.getD i 0 = 41 := by
    by_cases h : i < 16
    · rw [wsM_at i h]
      split <;> simp
    · left
      simp [List.getD, List.getElem?_eq_none (show wsM.length ≤ i from by show 16 ≤ i; omega)]
  omega
theorem fine_K (g gp gc l : Nat) : Fine (sK g gp gc l) dK := ⟨by show (16 : Nat) ≤ 4000; omega, by show (1 : Nat) ≤ 200; omega, by show (2 : Nat) ≤ 100000; omega, (fine_M g gp gc).hv, by decide⟩
theorem fine_H (g cw : Nat) (A C : Option Addr) : Fine (sH g cw A C) dZ := by
  refine ⟨by show (32 : Nat) ≤ 4000; omega, by show (2 : Nat) ≤ 200; omega, by show (4 : Nat) ≤ 100000; omega, fun i => ?_, by decide⟩
  have : dZ.ws.getD i 0 = 0 := by
    show (List.replicate 32 (0 : Int)).getD i 0 = 0
    exact rep0 32 i
  omega
theorem whole_H (g cw : Nat) (A C : Option Addr) : wholeH (sH g cw A C) dZ 0 noCaches = true := by kernel_rfl
theorem used_H (g cw : Nat) (A C : Option Addr) : usedL (sH g cw A C) dZ = [] := by kernel_rfl
theorem may_M (g gp gc : Nat) : mayB0 (sM g gp gc) dM = true := by kernel_rfl
theorem whole_M (g gp gc : Nat) : wholeH (sM g gp gc) dM 0 noCaches = false := by kernel_rfl
theorem head_M (g gp gc : Nat) : headV (sM g gp gc) dM 24 = .agg #[.bool true, .bool false, .bool false, .int .i64 5, .int .i64 0, .int .i64 0] ∧ headE (sM g gp gc) dM 24 = 0 := ⟨by kernel_rfl, by kernel_rfl⟩
theorem whole_K (g gp gc l : Nat) : wholeH (sK g gp gc l) dK 0 noCaches = true := by kernel_rfl
/-- What the example holds: three heaps in their boxes, a head. -/
structure Six (w : World) (b1 b bk bx : Nat) (s1 s3 sk : Hs) (W : World) : Prop where
  h : HBox W b1 s1
  m : HBox W b s3
  k : HBox W bk sk
  ph : Hp W W.heap.size s1 dZ
  pm : Hp W W.heap.size s3 dM
  pk : Hp W W.heap.size sk dK
  n : W.cell? ⟨bx, 3, none⟩ = some (.int .i64 5)
  nl : bx < W.heap.size
  bel : Below w.heap.size w W
theorem Six.next {w W W' : World} {b1 b bk bx : Nat} {s1 s3 sk : Hs} (h : Six w b1 b bk bx s1 s3 sk W) (hb : Below W.heap.size W W') (h0 : w.heap.size ≤ W.heap.size) : Six w b1 b bk bx s1 s3 sk W' :=
  ⟨h.h.next hb, h.m.next hb, h.k.next hb, h.ph.next hb, h.pm.next hb, h.pk.next hb, (hb.cell (p := ⟨bx, 3, none⟩) h.nl).trans h.n, Nat.lt_of_lt_of_le h.nl hb.size, h.bel.trans (hb.mono h0)⟩
theorem pwhole0_any (s : Hs) (d : Hd_) (w : World) (hp : Hp w w.heap.size s d) (hz : Cl.Sz w) (hf : Fine s d) :
    Calls Tryz.prog 24 #[(.agg #[.slice s.w.a s.w.n s.w.c, .slice s.p.a s.p.n s.p.c, .slice (s.u 0).a (s.u 0).n (s.u 0).c, .slice (s.u 1).a (s.u 1).n (s.u 1).c, .slice (s.u 2).a (s.u 2).n (s.u 2).c, .slice s.c.a s.c.n s.c.c]), .slice none 0 0] w fun e w' => e = .returned (.bool (wholeH s d 0 noCaches)) ∧ Below w.heap.size w w' := by
  obtain ⟨U, hU⟩ := lrow_none w w.heap.size
  refine pwhole_any s d none 0 0 U noCaches w hp hU (by omega) hz hf ?_
  rw [show Ls.allOf (ahead d.F noCaches) (1 + 0) = Ls.upTo d.F 3 by simp [Ls.allOf, ahead]]
  exact hf.len
theorem aw_K {w4 w5 : World} {m mp mc : Nat} {o : Obj} (hp : Hp w4 w4.heap.size (sM m mp mc) dM)
    (hw : w5 = ((w4.alloc o).alloc (.cells #[.slice (some ⟨m, 0, none⟩) 16 16, .slice (some ⟨mp, 0, none⟩) 1 1, .slice none 0 0, .slice none 0 0, .slice (some ⟨w4.heap.size + 1 + 1, 0, none⟩) 1 1, .slice (some ⟨mc, 0, none⟩) 2 2] 28)).alloc (.cells #[.int .i64 16] 3)) :
    Below w4.heap.size w4 w5 ∧ HBox w5 (w4.heap.size + 1) (sK m mp mc (w4.heap.size + 1 + 1)) ∧ Hp w5 w5.heap.size (sK m mp mc (w4.heap.size + 1 + 1)) dK := by
  have hb : Below w4.heap.size w4 w5 := by rw [hw]; exact (((Below.refl _ _).alloc (Nat.le_refl _) _).alloc (by simp) _).alloc (by simp; omega) _
  have h5 := hp.next hb
  have hs : w5.heap.size = w4.heap.size + 1 + 1 + 1 := by rw [hw]; simp
  refine ⟨hb, ?_, h5.words, h5.pages, fun j hj => ?_, h5.cards⟩
  · have hx := (HBox.new (w4.alloc o) (sK m mp mc (w4.heap.size + 1 + 1)) 28).next ((Below.refl _ _).alloc (Nat.le_refl _) (.cells #[.int .i64 16] 3))
    rw [World.size_alloc] at hx
    rw [hw]
    exact hx
  · by_cases e : j = 2
    · subst e
      refine ⟨⟨rfl, fun _ => ⟨w4.heap.size + 1 + 1, 0, rfl, by omega, fun i hi => ?_⟩⟩, Nat.le_refl _, by show (1 : Nat) ≤ maxLen; unfold maxLen; omega⟩
      obtain rfl : i = 0 := by have : i < 1 := hi; omega
      rw [hw]
      simp [go_sem, dK]
    · have e1 : (sK m mp mc (w4.heap.size + 1 + 1)).u j = ⟨none, 0, 0⟩ := by simp [sK, e]
      have e2 : dK.F j = [] := by simp [dK, e]
      rw [e1, e2]
      exact ⟨Row.none_ _ _, Nat.le_refl _, by show (0 : Nat) ≤ maxLen; unfold maxLen; omega⟩
set_option maxHeartbeats 2000000 in
theorem awake_any (w : World) (hz : Cl.Sz w) : Calls Tryz.prog 10 #[] w fun e w' => e = .returned (.bool true) ∧ Below w.heap.size w w' := by
  have HZ := Lib.hid hz
  have hz0 := hz.pos
  have hnew := new_ok 2
  simp only [show ((2 : Nat) : Int) = 2 from rfl] at hnew
  have HNEW := Lib.hid hnew
  have mi := make_ints 16 (by omega)
  have mb := make_bools 2 (by omega)
  simp only [show ((2 : Nat) : Int) = 2 from rfl, show ((16 : Nat) : Int) = 16 from rfl] at mi mb
  clear hz hnew
  go_enter Tryz.func10, Tryz.ntmps10
  go_wp2_with fail
  refine (HNEW.out w (by omega) (by omega)).mono ?_
  rintro e w1 ⟨A, C, g, cw, rfl, hr1, hp1, hc1, hb1⟩
  have H1 := Lib.hid (And.intro hr1 (And.intro hp1 (And.intro hc1 hb1)))
  clear hr1 hp1 hc1 hb1
  go_upto_region 2 with (fail)
  obtain ⟨w2, hw2⟩ : ∃ w2, w2 = w1.alloc (.cells #[.slice (some ⟨g, 0, none⟩) (16 * 2) cw, .slice A 2 2, .slice none 0 0, .slice none 0 0, .slice none 0 0, .slice C (2 * 2) (2 * 2)] 28) := ⟨_, rfl⟩
  have hbx := HBox.new w1 ⟨⟨some ⟨g, 0, none⟩, 16 * 2, cw⟩, ⟨A, 2, 2⟩, Ls.noSl, ⟨C, 2 * 2, 2 * 2⟩⟩ 28
  have hb2 : Below w1.heap.size w1 w2 := by rw [hw2]; exact (Below.refl _ _).alloc (Nat.le_refl _) _
  have X1 : Hid (HBox w2 w1.heap.size ⟨⟨some ⟨g, 0, none⟩, 16 * 2, cw⟩, ⟨A, 2, 2⟩, Ls.noSl, ⟨C, 2 * 2, 2 * 2⟩⟩) := Lib.hid (by rw [hw2]; exact hbx)
  have B2 := Lib.hid hb2
  rw [← hw2]
  have hs2 := B2.out.size
  clear hw2 hbx hb2
  go_cut [3] from 7 to 61 (fun v wc => ∃ b g gp gc : Nat, v = .pointer (some ⟨b, 0, none⟩) ∧ Hid (AwM w2 wc b g gp gc))
  case first =>
    go_region
    all_goals go_wp2_with fail
    all_goals go_meet
    all_goals exact ⟨_, _, _, _, rfl, Lib.hid ⟨(by first | exact (four _ _ _ _ _).1 | exact (four _ _ _ _ _).2.1 | exact (four _ _ _ _ _).2.2.1 | exact (four _ _ _ _ _).2.2.2), (by first | exact (four _ _ _ _ _).1 | exact (four _ _ _ _ _).2.1 | exact (four _ _ _ _ _).2.2.1 | exact (four _ _ _ _ _).2.2.2), (by first | exact (four _ _ _ _ _).1 | exact (four _ _ _ _ _).2.1 | exact (four _ _ _ _ _).2.2.1 | exact (four _ _ _ _ _).2.2.2), (by first | exact (four _ _ _ _ _).1 | exact (four _ _ _ _ _).2.1 | exact (four _ _ _ _ _).2.2.1 | exact (four _ _ _ _ _).2.2.2), ⟨by omega, by omega, by omega⟩, by omega, four_below _ _ _ _ _ _⟩⟩
  case rest =>
    obtain ⟨b, m, mp, mc, rfl, HA⟩ := hcut
    have hbx := aw_box HA.out
    have q0 := hbx.c0
    have ql := hbx.lt
    obtain ⟨c8, f8, l8⟩ := aw_word HA.out
    have HS := Lib.hid (aw_store HA.out)
    have X2 := Lib.hid ((X1.out.next HA.out.bel).same (W' := wc.setCell ⟨m, 8, none⟩ (.int .i64 41)) (Below.heap_setCell _ _ _ _ (by have := HA.out.old; have := X1.out.lt; show ¬ w1.heap.size = m; omega)) (by simp [World.setCell]))
    have BM := Lib.hid (B2.out.trans (HS.out.2.2.mono hs2))
    dsimp only [sM] at q0
    have hsz3 : wc.heap.size = (wc.setCell ⟨m, 8, none⟩ (.int .i64 41)).heap.size := by simp [World.setCell]
    clear hbx
    go_upto_region 4 with (fail)
    generalize wc.setCell ⟨m, 8, none⟩ (.int .i64 41) = w3 at HS X2 BM ⊢
    have hq := HS.out.1
    have q0 := hq.c0
    have q1 := hq.c1
    have q2 := hq.c2
    have q3 := hq.c3
    have q4 := hq.c4
    have q5 := hq.c5
    have ql := hq.lt
    dsimp only [sM, Ls.noSl] at q0 q1 q2 q3 q4 q5
    have hbel : Below w.heap.size w w3 := H1.out.2.2.2.trans (BM.out.mono H1.out.2.2.2.size)
    have BL := Lib.hid hbel
    have PH := Lib.hid (show Hp w1 w1.heap.size (sH g cw A C) dZ from ⟨H1.out.1, H1.out.2.1, Ls.L3.none_ _ _, H1.out.2.2.1⟩)
    have hz3 := Lib.hid (HZ.out.over hbel hz0)
    clear c8 f8 l8 hq hbel hsz3 HA
    go_wp2_with fail
    refine (phead_any (sM m mp mc) dM 24 w3 HS.out.2.1 hz3.out (fine_M m mp mc)).mono ?_
    rw [(head_M m mp mc).1, (head_M m mp mc).2]
    rintro e w4 ⟨rfl, hb4⟩
    have M4 := Lib.hid (HS.out.1.next hb4)
    have P4 := Lib.hid (HS.out.2.1.next hb4)
    have X4 := Lib.hid (X2.out.next hb4)
    have L4 := Lib.hid (BL.out.trans (hb4.mono BL.out.size))
    have D4 := Lib.hid ((BM.out.trans (hb4.mono BM.out.size)))
    clear q0 q1 q2 q3 q4 q5 ql hb4
    have q0 := M4.out.c0
    have q1 := M4.out.c1
    have q2 := M4.out.c2
    have q3 := M4.out.c3
    have q4 := M4.out.c4
    have q5 := M4.out.c5
    have ql := M4.out.lt
    dsimp only [sM, Ls.noSl] at q0 q1 q2 q3 q4 q5
    go_upto_region 7 with (fail)
    obtain ⟨w5, hw5⟩ : ∃ w5, w5 = ((w4.alloc (.cells #[.bool true, .bool false, .bool false, .int .i64 5, .int .i64 0, .int .i64 0] 30)).alloc (.cells #[.slice (some ⟨m, 0, none⟩) 16 16, .slice (some ⟨mp, 0, none⟩) 1 1, .slice none 0 0, .slice none 0 0, .slice (some ⟨w4.heap.size + 1 + 1, 0, none⟩) 1 1, .slice (some ⟨mc, 0, none⟩) 2 2] 28)).alloc (.cells #[.int .i64 16] 3) := ⟨_, rfl⟩
    have hk5 := aw_K P4.out hw5
    have hn5 : w5.cell? ⟨w4.heap.size, 3, none⟩ = some (.int .i64 5) := by rw [hw5]; simp [go_sem]
    rw [← hw5]
    have G5 := Lib.hid (Six.mk (X4.out.next hk5.1) (M4.out.next hk5.1) hk5.2.1 (PH.out.below (D4.out.trans (hk5.1.mono D4.out.size)) |>.more (by have := hk5.1.size; have := D4.out.size; omega)) (P4.out.next hk5.1) hk5.2.2 hn5 (by have := hk5.1.size; have := hk5.2.1.lt; omega) (L4.out.trans (hk5.1.mono L4.out.size)))
    clear q0 q1 q2 q3 q4 q5 ql hw5 hk5 hn5 M4 P4 X4 L4 D4
    have x0 := G5.out.h.c0
    have x1 := G5.out.h.c1
    have x2 := G5.out.h.c2
    have x3 := G5.out.h.c3
    have x4 := G5.out.h.c4
    have x5 := G5.out.h.c5
    have xl := G5.out.h.lt
    have y0 := G5.out.m.c0
    have y1 := G5.out.m.c1
    have y2 := G5.out.m.c2
    have y3 := G5.out.m.c3
    have y4 := G5.out.m.c4
    have y5 := G5.out.m.c5
    have yl := G5.out.m.lt
    have z0 := G5.out.k.c0
    have z1 := G5.out.k.c1
    have z2 : w5.cell? ⟨w4.heap.size + 1, 2, none⟩ = some (.slice none 0 0) := G5.out.k.c2
    have z3 : w5.cell? ⟨w4.heap.size + 1, 3, none⟩ = some (.slice none 0 0) := G5.out.k.c3
    have z4 : w5.cell? ⟨w4.heap.size + 1, 4, none⟩ = some (.slice (some ⟨w4.heap.size + 1 + 1, 0, none⟩) 1 1) := G5.out.k.c4
    have z5 := G5.out.k.c5
    have zl := G5.out.k.lt
    have n5 := G5.out.n
    have nl := G5.out.nl
    dsimp only [sH, sM, sK, Ls.noSl] at x0 x1 x2 x3 x4 x5 y0 y1 y2 y3 y4 y5 z0 z1 z5
    go_wp2_with fail
    refine (pwhole0_any (sH g cw A C) dZ w5 G5.out.ph (HZ.out.over G5.out.bel hz0) (fine_H g cw A C)).mono ?_
    rw [whole_H]
    rintro e w6 ⟨rfl, hb6⟩
    have G6 := Lib.hid (G5.out.next hb6 G5.out.bel.size)
    clear hb6 x0 x1 x2 x3 x4 x5 xl y0 y1 y2 y3 y4 y5 yl z0 z1 z2 z3 z4 z5 zl n5 nl
    have x0 := G6.out.h.c0
    have x1 := G6.out.h.c1
    have x2 := G6.out.h.c2
    have x3 := G6.out.h.c3
    have x4 := G6.out.h.c4
    have x5 := G6.out.h.c5
    have xl := G6.out.h.lt
    have y0 := G6.out.m.c0
    have y1 := G6.out.m.c1
    have y2 := G6.out.m.c2
    have y3 := G6.out.m.c3
    have y4 := G6.out.m.c4
    have y5 := G6.out.m.c5
    have yl := G6.out.m.lt
    have z0 := G6.out.k.c0
    have z1 := G6.out.k.c1
    have z2 : w6.cell? ⟨w4.heap.size + 1, 2, none⟩ = some (.slice none 0 0) := G6.out.k.c2
    have z3 : w6.cell? ⟨w4.heap.size + 1, 3, none⟩ = some (.slice none 0 0) := G6.out.k.c3
    have z4 : w6.cell? ⟨w4.heap.size + 1, 4, none⟩ = some (.slice (some ⟨w4.heap.size + 1 + 1, 0, none⟩) 1 1) := G6.out.k.c4
    have z5 := G6.out.k.c5
    have zl := G6.out.k.lt
    have n5 := G6.out.n
    have nl := G6.out.nl
    dsimp only [sH, sM, sK, Ls.noSl] at x0 x1 x2 x3 x4 x5 y0 y1 y2 y3 y4 y5 z0 z1 z5
    go_wp2_with fail
    refine (pused_any (sH g cw A C) dZ w6 G6.out.ph (HZ.out.over G6.out.bel hz0) (fine_H g cw A C)).mono ?_
    rw [used_H]
    rintro e w7 ⟨v7, rfl, ho7, hb7⟩
    have G7 := Lib.hid (G6.out.next hb7 G6.out.bel.size)
    clear hb7 x0 x1 x2 x3 x4 x5 xl y0 y1 y2 y3 y4 y5 yl z0 z1 z2 z3 z4 z5 zl n5 nl
    have hv7 : v7.n = 0 := by simpa using ho7.1.symm
    rw [hv7]
    clear ho7 hv7
    have x0 := G7.out.h.c0
    have x1 := G7.out.h.c1
    have x2 := G7.out.h.c2
    have x3 := G7.out.h.c3
    have x4 := G7.out.h.c4
    have x5 := G7.out.h.c5
    have xl := G7.out.h.lt
    have y0 := G7.out.m.c0
    have y1 := G7.out.m.c1
    have y2 := G7.out.m.c2
    have y3 := G7.out.m.c3
    have y4 := G7.out.m.c4
    have y5 := G7.out.m.c5
    have yl := G7.out.m.lt
    have z0 := G7.out.k.c0
    have z1 := G7.out.k.c1
    have z2 : w7.cell? ⟨w4.heap.size + 1, 2, none⟩ = some (.slice none 0 0) := G7.out.k.c2
    have z3 : w7.cell? ⟨w4.heap.size + 1, 3, none⟩ = some (.slice none 0 0) := G7.out.k.c3
    have z4 : w7.cell? ⟨w4.heap.size + 1, 4, none⟩ = some (.slice (some ⟨w4.heap.size + 1 + 1, 0, none⟩) 1 1) := G7.out.k.c4
    have z5 := G7.out.k.c5
    have zl := G7.out.k.lt
    have n5 := G7.out.n
    have nl := G7.out.nl
    dsimp only [sH, sM, sK, Ls.noSl] at x0 x1 x2 x3 x4 x5 y0 y1 y2 y3 y4 y5 z0 z1 z5
    go_wp2_with fail
    refine (pmay0_any (sM m mp mc) dM w7 G7.out.pm (HZ.out.over G7.out.bel hz0) (fine_M m mp mc)).mono ?_
    rw [may_M]
    rintro e w8 ⟨rfl, hb8⟩
    have G8 := Lib.hid (G7.out.next hb8 G7.out.bel.size)
    clear hb8 x0 x1 x2 x3 x4 x5 xl y0 y1 y2 y3 y4 y5 yl z0 z1 z2 z3 z4 z5 zl n5 nl
    have x0 := G8.out.h.c0
    have x1 := G8.out.h.c1
    have x2 := G8.out.h.c2
    have x3 := G8.out.h.c3
    have x4 := G8.out.h.c4
    have x5 := G8.out.h.c5
    have xl := G8.out.h.lt
    have y0 := G8.out.m.c0
    have y1 := G8.out.m.c1
    have y2 := G8.out.m.c2
    have y3 := G8.out.m.c3
    have y4 := G8.out.m.c4
    have y5 := G8.out.m.c5
    have yl := G8.out.m.lt
    have z0 := G8.out.k.c0
    have z1 := G8.out.k.c1
    have z2 : w8.cell? ⟨w4.heap.size + 1, 2, none⟩ = some (.slice none 0 0) := G8.out.k.c2
    have z3 : w8.cell? ⟨w4.heap.size + 1, 3, none⟩ = some (.slice none 0 0) := G8.out.k.c3
    have z4 : w8.cell? ⟨w4.heap.size + 1, 4, none⟩ = some (.slice (some ⟨w4.heap.size + 1 + 1, 0, none⟩) 1 1) := G8.out.k.c4
    have z5 := G8.out.k.c5
    have zl := G8.out.k.lt
    have n5 := G8.out.n
    have nl := G8.out.nl
    dsimp only [sH, sM, sK, Ls.noSl] at x0 x1 x2 x3 x4 x5 y0 y1 y2 y3 y4 y5 z0 z1 z5
    go_wp2_with fail
    refine (pwhole0_any (sM m mp mc) dM w8 G8.out.pm (HZ.out.over G8.out.bel hz0) (fine_M m mp mc)).mono ?_
    rw [whole_M]
    rintro e w9 ⟨rfl, hb9⟩
    have G9 := Lib.hid (G8.out.next hb9 G8.out.bel.size)
    clear hb9 x0 x1 x2 x3 x4 x5 xl y0 y1 y2 y3 y4 y5 yl z0 z1 z2 z3 z4 z5 zl n5 nl
    have x0 := G9.out.h.c0
    have x1 := G9.out.h.c1
    have x2 := G9.out.h.c2
    have x3 := G9.out.h.c3
    have x4 := G9.out.h.c4
    have x5 := G9.out.h.c5
    have xl := G9.out.h.lt
    have y0 := G9.out.m.c0
    have y1 := G9.out.m.c1
    have y2 := G9.out.m.c2
    have y3 := G9.out.m.c3
    have y4 := G9.out.m.c4
    have y5 := G9.out.m.c5
    have yl := G9.out.m.lt
    have z0 := G9.out.k.c0
    have z1 := G9.out.k.c1
    have z2 : w9.cell? ⟨w4.heap.size + 1, 2, none⟩ = some (.slice none 0 0) := G9.out.k.c2
    have z3 : w9.cell? ⟨w4.heap.size + 1, 3, none⟩ = some (.slice none 0 0) := G9.out.k.c3
    have z4 : w9.cell? ⟨w4.heap.size + 1, 4, none⟩ = some (.slice (some ⟨w4.heap.size + 1 + 1, 0, none⟩) 1 1) := G9.out.k.c4
    have z5 := G9.out.k.c5
    have zl := G9.out.k.lt
    have n5 := G9.out.n
    have nl := G9.out.nl
    dsimp only [sH, sM, sK, Ls.noSl] at x0 x1 x2 x3 x4 x5 y0 y1 y2 y3 y4 y5 z0 z1 z5
    go_wp2_with fail
    refine (pwhole0_any (sK m mp mc (w4.heap.size + 1 + 1)) dK w9 G9.out.pk (HZ.out.over G9.out.bel hz0) (fine_K m mp mc _)).mono ?_
    rw [whole_K]
    rintro e w10 ⟨rfl, hb10⟩
    have G10 := Lib.hid (G9.out.next hb10 G9.out.bel.size)
    clear hb10 x0 x1 x2 x3 x4 x5 xl y0 y1 y2 y3 y4 y5 yl z0 z1 z2 z3 z4 z5 zl n5 nl
    go_wp2
    go_ret
    exact ⟨rfl, G10.out.bel⟩
end Go.Proofs.YthgcaehhjiccbaaGreatDoor
