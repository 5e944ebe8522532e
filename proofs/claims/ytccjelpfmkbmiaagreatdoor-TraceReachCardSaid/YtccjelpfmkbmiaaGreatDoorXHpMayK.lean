/-
  Package heap's May: what it asks of each cell; cells that are not used are gathered, class by class.
-/
import Derived.Test.YtccjelpfmkbmiaaGreatDoorHpXF
namespace Go.Proofs.YtccjelpfmkbmiaaGreatDoor
open Go.RowKit
set_option maxRecDepth 100000

open Ls in
/-- Blocks that stay as they were. -/
def tKeep (n₀ : Nat) (M : Nat → Prop) (W : World) : Ls.Thing :=
  ⟨fun b => M b ∧ n₀ ≤ b ∧ b < W.heap.size, fun w => ∀ b, M b → n₀ ≤ b → b < W.heap.size → w.heap[b]? = W.heap[b]?, fun _ _ h _ hs b h1 h2 h3 => (hs b ⟨h1, h2, h3⟩).trans (h b h1 h2 h3)⟩
/-- What is gathered, class by class, of the cells that were asked. -/
def unus (d : Hd_) (pre : List Int) : Nat → List Int := fun j => pre.filter fun a => decide (¬ wd d a % 2 = 1 ∧ (pgAt d a).2 = (j : Int))
theorem unus_used {d : Hd_} {pre : List Int} {a : Int} (h : wd d a % 2 = 1) : unus d (pre ++ [a]) = unus d pre := by
  funext j
  simp [unus, List.filter_append, h]
theorem unus_free {d : Hd_} {pre : List Int} {a : Int} {k : Nat} (h : ¬ wd d a % 2 = 1) (hk : (pgAt d a).2 = (k : Int)) : unus d (pre ++ [a]) = Ls.upd (unus d pre) k (unus d pre k ++ [a]) := by
  funext j
  by_cases e : j = k
  · subst e
    rw [Ls.upd_same]
    simp [unus, List.filter_append, h, hk]
  · rw [Ls.upd_other _ _ e]
    have : ¬ (k : Int) = (j : Int) := by omega
    simp [unus, List.filter_append, hk, this]
theorem unus_len (d : Hd_) (pre : List Int) (j : Nat) : (unus d pre j).length ≤ pre.length := List.length_filter_le _ _
/-- What May asks. -/
def askM (d : Hd_) (a : Int) : Bool := if wd d a % 2 = 1 then fillsB (nOf (wd d a)) (pgAt d a) else !((pgAt d a).1 == 2)
/-- What was gathered, in a box of May's, apart from M's blocks. -/
structure Gath (n₀ bu : Nat) (w₀ : World) (G : Nat → List Int) (M : Nat → Prop) (W : World) (R : Nat → Option Ls.Thing) (V : Nat → Ls.Sl) : Prop where
  lst : Ls.Lst n₀ w₀ W R bu V G
  two : ∀ r t, R r = some t → r = 0 ∨ r = 1
  off : ∀ r t, R r = some t → ∀ b, t.blk b → ¬ M b
def JM (n₀ bu : Nat) (w₀ : World) (d : Hd_) (M : Nat → Prop) (pre : List Int) (W : World) : Prop := ∃ R V, Gath n₀ bu w₀ (unus d pre) M W R V
theorem Gath.bide {n₀ bu : Nat} {w₀ : World} {G : Nat → List Int} {M M' : Nat → Prop} {W W' : World} {R : Nat → Option Ls.Thing} {V : Nat → Ls.Sl} (h : Gath n₀ bu w₀ G M W R V) (hb : Below n₀ W W')
    (hs : ∀ k, k < W.heap.size → ¬ M k → W'.heap[k]? = W.heap[k]?) (hm : ∀ k, M' k → M k ∨ (W.heap.size ≤ k ∧ k < W'.heap.size)) : Gath n₀ bu w₀ G M' W' R V := by
  refine ⟨⟨⟨h.lst.res.bel.trans hb, fun r t hr => ?_, h.lst.res.apart⟩, h.lst.own, h.lst.box, Nat.le_trans h.lst.big hb.size⟩, h.two, fun r t hr b hbk hM => ?_⟩
  · have ho := h.lst.res.ok r t hr
    exact ⟨t.stab W W' ho.1 hb.size (fun b hbk => hs b (ho.2 b hbk).2 (h.off r t hr b hbk)), fun b hbk => ⟨(ho.2 b hbk).1, Nat.lt_of_lt_of_le (ho.2 b hbk).2 hb.size⟩⟩
  · rcases hm b hM with h1 | h1
    · exact h.off r t hr b hbk h1
    · have := ((h.lst.res.ok r t hr).2 b hbk).2
      omega
theorem bides_JM (n₀ bu : Nat) (w₀ : World) (d : Hd_) : Cl.Bides n₀ (JM n₀ bu w₀ d) := by
  rintro M M' pre W W' ⟨R, V, h⟩ hb hs hm
  exact ⟨R, V, h.bide hb hs hm⟩
/-- The call's own start: M's blocks are held besides. -/
def R3 (n₀ : Nat) (M : Nat → Prop) (W : World) (R : Nat → Option Ls.Thing) : Nat → Option Ls.Thing := Ls.upd R 2 (some (tKeep n₀ M W))
theorem Gath.start {n₀ bu : Nat} {w₀ : World} {G : Nat → List Int} {M : Nat → Prop} {W : World} {R : Nat → Option Ls.Thing} {V : Nat → Ls.Sl} (h : Gath n₀ bu w₀ G M W R V) : Ls.Lst n₀ W W (R3 n₀ M W R) bu V G := by
  have h2 : R 2 = none := by
    cases e : R 2 with
    | none => rfl
    | some t => rcases h.two 2 t e with h | h <;> cases h
  refine ⟨⟨Below.refl _ _, fun r t hr => ?_, fun r r' t t' h1 h2' hn b hb hb' => ?_⟩, ?_, ?_, h.lst.big⟩
  · by_cases e : r = 2
    · subst e
      rw [R3, Ls.upd_same] at hr
      cases hr
      exact ⟨fun _ _ _ _ => rfl, fun b hb => hb.2⟩
    · rw [R3, Ls.upd_other _ _ e] at hr
      exact h.lst.res.ok r t hr
  · by_cases e : r = 2
    · subst e
      rw [R3, Ls.upd_same] at h1
      rw [R3, Ls.upd_other _ _ (fun e => hn e.symm)] at h2'
      cases h1
      exact h.off r' t' h2' b hb' hb.1
    · rw [R3, Ls.upd_other _ _ e] at h1
      by_cases e' : r' = 2
      · subst e'
        rw [R3, Ls.upd_same] at h2'
        cases h2'
        exact h.off r t h1 b hb hb'.1
      · rw [R3, Ls.upd_other _ _ e'] at h2'
        exact h.lst.res.apart r r' t t' h1 h2' hn b hb hb'
  · rw [R3, Ls.upd_other _ _ (by decide)]; exact h.lst.own
  · rw [R3, Ls.upd_other _ _ (by decide)]; exact h.lst.box
theorem Ls.Lst.next {base bu : Nat} {W w w' : World} {R : Nat → Option Thing} {V : Nat → Sl} {G : Nat → List Int} (h : Lst base W w R bu V G) (hb : Below w.heap.size w w') : Lst base W w' R bu V G :=
  ⟨h.res.next h.big hb, h.own, h.box, Nat.le_trans h.big hb.size⟩
theorem Ls.Lst.cat_ok {base bu k : Nat} {W wr w2 : World} {R : Nat → Option Thing} {V : Nat → Sl} {G : Nat → List Int} {s : Sl} {xs : List Int} {o : Obj} (h : Lst base W wr R bu V G) (hk : k < 3) (hc : Catted (wr.alloc o) base (.slice (V k).a (V k).n (V k).c) s xs w2) {r : Nat} {t : Thing} (hr : R r = some t) (h2 : 2 ≤ r) : t.ok w2 :=
  ((h.res.catted (b0 := base) h.big h.own hk hc hc.own).ok r t (by rw [upd_other _ _ (by omega)]; exact hr)).1
/-- One more block that stays. -/
theorem Ls.Lst.keep {base bu : Nat} {W w : World} {R : Nat → Option Thing} {V : Nat → Sl} {G : Nat → List Int} (h : Lst base W w R bu V G) (o : Obj) : Lst base W (w.alloc o) (upd R 3 (some (tKeep base (fun b => b = w.heap.size) (w.alloc o)))) bu V G :=
  ⟨h.res.add h.big ((Below.refl _ _).alloc (Nat.le_refl _) o) 3 _ (fun _ _ _ _ => rfl) (fun b hb => by obtain ⟨rfl, _, h3⟩ := hb; exact ⟨Nat.le_refl _, h3⟩), by rw [upd_other _ _ (by decide)]; exact h.own, by rw [upd_other _ _ (by decide)]; exact h.box, Nat.le_trans h.big (by simp)⟩
/-- .. and its end. -/
theorem gath_end {n₀ bu : Nat} {w₀ : World} {G G' : Nat → List Int} {M : Nat → Prop} {W W' : World} {R R' : Nat → Option Ls.Thing} {V V' : Nat → Ls.Sl} (h0 : Gath n₀ bu w₀ G M W R V) (hfit : ∀ k, M k → k < W.heap.size)
    (h : Ls.Lst n₀ W W' R' bu V' G') (hR : R' 2 = some (tKeep n₀ M W)) : Cl.Kept n₀ M W W' ∧ ∃ R V, Gath n₀ bu w₀ G' M W' R V := by
  have hk := h.res.ok 2 _ hR
  refine ⟨⟨h.res.bel, fun k hM hk1 => ?_⟩, fun r => if r < 2 then R' r else none, V', ⟨⟨⟨h0.lst.res.bel.trans h.res.bel, fun r t hr => ?_, fun r s t t' h1 h2 hn => ?_⟩, h.own, h.box, h.big⟩, fun r t hr => ?_, fun r t hr b hb hM => ?_⟩⟩
  · by_cases hn : n₀ ≤ k
    · exact hk.1 k hM hn hk1
    · exact h.res.bel.block k (by omega)
  · by_cases e : r < 2
    · rw [if_pos e] at hr; exact h.res.ok r t hr
    · rw [if_neg e] at hr; cases hr
  · by_cases e : r < 2
    · rw [if_pos e] at h1
      by_cases e' : s < 2
      · rw [if_pos e'] at h2; exact h.res.apart r s t t' h1 h2 hn
      · rw [if_neg e'] at h2; cases h2
    · rw [if_neg e] at h1; cases h1
  · by_cases e : r < 2
    · omega
    · rw [if_neg e] at hr; cases hr
  · by_cases e : r < 2
    · rw [if_pos e] at hr
      exact h.res.apart r 2 t _ hr hR (by omega) b hb ⟨hM, ((h.res.ok r t hr).2 b hb).1, hfit b hM⟩
    · rw [if_neg e] at hr; cases hr

def KOut (n₀ bu : Nat) (w₀ : World) (d : Hd_) (M : Nat → Prop) (pre : List Int) (W : World) (R : Bool) (e : Ending) (W' : World) : Prop := e = .returned (.bool R) ∧ Cl.Kept n₀ M W W' ∧ (R = true → JM n₀ bu w₀ d M pre W')
section
variable (n₀ bu : Nat) (w₀ : World) (d : Hd_) (M : Nat → Prop) (pre : List Int) (a x : Int) (p : Int × Int) (W : World)
theorem mayK_used (hx : x = wd d a) (h1 : x % 2 = 1) (hJ : JM n₀ bu w₀ d M pre W) (hn : n₀ ≤ W.heap.size) (hz : Cl.Sz W) :
    Calls Tryz.prog 63 #[cellV a x p, .pointer (some ⟨bu, 0, none⟩)] W (KOut n₀ bu w₀ d M (pre ++ [a]) W (fillsB (nOf x) p)) := by
  have hu : decide (x % 2 = 1) = true := decide_eq_true h1
  have HJ := Lib.hid hJ
  have HZ := Lib.hid hz
  have HX := Lib.hid (And.intro hx h1)
  unfold cellV
  rw [hu]
  clear hJ hz hx h1 hu
  go_enter Tryz.func63, Tryz.ntmps63
  go_wp2_with fail
  refine (fills_any (nOf x) p _ (HZ.out.alloc _)).mono ?_
  rintro e w1 ⟨rfl, hb1⟩
  have HB := Lib.hid (((Below.refl W.heap.size W).alloc (Nat.le_refl _) (.cells #[.int .i64 a, .int .i64 p.1, .int .i64 p.2, .bool true, .bool (decide (x / 2 % 2 = 1)), .bool (decide (x / 4 % 2 = 1)), .int .i64 (nOf x), .int .i64 (x / 1024 % 4194304), .int .i64 (x / 4294967296)] 85)).trans (hb1.mono (by simp)))
  clear hb1
  go_wp2
  go_ret
  refine ⟨rfl, ⟨HB.out.mono hn, fun k hM hk => HB.out.block k hk⟩, fun _ => ?_⟩
  have e : JM n₀ bu w₀ d M pre w1 := bides_JM n₀ bu w₀ d M M pre W w1 HJ.out (HB.out.mono hn) (fun k hk _ => HB.out.block k hk) (fun _ h => .inl h)
  unfold JM
  rw [unus_used (by rw [← HX.out.1]; exact HX.out.2)]
  exact e
theorem mayK_large (h1 : ¬ x % 2 = 1) (h2 : p.1 = 2) (hn : n₀ ≤ W.heap.size) :
    Calls Tryz.prog 63 #[cellV a x p, .pointer (some ⟨bu, 0, none⟩)] W (KOut n₀ bu w₀ d M (pre ++ [a]) W false) := by
  have hu : decide (x % 2 = 1) = false := decide_eq_false h1
  have k1 : (p.1 == 2) = true := by simp [h2]
  unfold cellV
  rw [hu]
  clear h1 hu h2
  go_enter Tryz.func63, Tryz.ntmps63
  go_wp2
  go_ret
  have hb := (Below.refl W.heap.size W).alloc (Nat.le_refl _) (.cells #[.int .i64 a, .int .i64 p.1, .int .i64 p.2, .bool false, .bool (decide (x / 2 % 2 = 1)), .bool (decide (x / 4 % 2 = 1)), .int .i64 (nOf x), .int .i64 (x / 1024 % 4194304), .int .i64 (x / 4294967296)] 85)
  exact ⟨rfl, ⟨hb.mono hn, fun k hM hk => hb.block k hk⟩, fun h => by cases h⟩
set_option maxHeartbeats 2000000 in
theorem mayK_free0 (hx : x = wd d a) (hp : p = pgAt d a) (h1 : ¬ x % 2 = 1) (h2 : ¬ p.1 = 2) (h3 : p.2 = 0) (hJ : JM n₀ bu w₀ d M pre W) (hfit : ∀ k, M k → k < W.heap.size) (hlen : pre.length ≤ 100000) :
    Calls Tryz.prog 63 #[cellV a x p, .pointer (some ⟨bu, 0, none⟩)] W (KOut n₀ bu w₀ d M (pre ++ [a]) W true) := by
  obtain ⟨R, V, hG⟩ := hJ
  have HG := Lib.hid hG
  have hS := hG.start.keep (.cells #[.int .i64 a, .int .i64 p.1, .int .i64 0, .bool false, .bool (decide (x / 2 % 2 = 1)), .bool (decide (x / 4 % 2 = 1)), .int .i64 (nOf x), .int .i64 (x / 1024 % 4194304), .int .i64 (x / 4294967296)] 85)
  have HS := Lib.hid hS
  have HU := Lib.hid (unus_free (d := d) (pre := pre) (a := a) (k := 0) (by rw [← hx]; exact h1) (by rw [← hp]; exact h3))
  have HF := Lib.hid hfit
  have hul := unus_len d pre 0
  have hu : decide (x % 2 = 1) = false := decide_eq_false h1
  have k1 : (p.1 == 2) = false := by simp [h2]
  have hvl := hS.len (k := 0) (by decide)
  have hvn : (V 0).n + 1 ≤ 4000000 := by omega
  unfold cellV
  rw [hu, h3]
  have X := hS.boxed
  have c0 := X.cell 0 (by decide)
  have cf := X.free 0
  have cl := X.lt
  have hbig := hS.big
  clear hx hp h1 h2 h3 hG hS hfit hu hvl X hul
  go_enter Tryz.func63, Tryz.ntmps63
  go_wp2
  obtain ⟨wc, hwc⟩ : ∃ wc, wc = W.alloc (.cells #[.int .i64 a, .int .i64 p.1, .int .i64 0, .bool false, .bool (decide (x / 2 % 2 = 1)), .bool (decide (x / 4 % 2 = 1)), .int .i64 (nOf x), .int .i64 (x / 1024 % 4194304), .int .i64 (x / 4294967296)] 85) := ⟨_, rfl⟩
  have y0 : wc.cell? ⟨W.heap.size, 0, none⟩ = some (.int .i64 a) := by rw [hwc]; simp [go_sem]
  have y2 : wc.cell? ⟨W.heap.size, 2, none⟩ = some (.int .i64 0) := by rw [hwc]; simp [go_sem]
  have yl : W.heap.size < wc.heap.size := by rw [hwc]; simp
  rw [← hwc] at c0 cf cl hbig HS ⊢
  have hrs : n₀ ≤ W.heap.size := HG.out.lst.big
  clear hwc
  go_region_law ((refine Ls.step_cat (by rfl) (.tmp 24) (.tmp 27) (by rfl) (by rfl) (by rfl) (HS.out.drew.row (k := 0) (.cells #[.int .i64 a] 3) (by decide)) (Ls.row_lit1 wc.drew a) (by simp; omega) (by omega) ?_; intro p' cp' w3 hc; have HM := Lib.hid (HS.out.drew.mid (k := 0) (by decide) hc); have HC3 := Lib.hid (HS.out.drew.cat (k := 0) (by decide) hc); have m0 := HM.out.1.cell 0 (by decide); have mf := HM.out.1.free 0; have ml := HM.out.1.lt; have hy := HS.out.drew.cat_ok (k := 0) (by decide) hc (r := 3) (Ls.upd_same _ _ _) (by decide) W.heap.size rfl hrs yl; have z2 := (World.cell?_of_block (a := ⟨W.heap.size, 2, none⟩) hy).trans y2; have z0 := (World.cell?_of_block (a := ⟨W.heap.size, 0, none⟩) hy).trans y0; have zl : W.heap.size < w3.heap.size := World.block_lt_of_cell? w3 _ z0; clear hc HM hy))
  all_goals clear c0 cf cl m0 mf ml y0 y2 yl z0 z2 zl
  all_goals go_wp2
  all_goals go_ret
  all_goals
    obtain ⟨R', hL, hK⟩ := HC3.out
    have hE := gath_end HG.out HF.out hL (by rw [hK 2 (by decide), Ls.upd_other _ _ (by decide), R3, Ls.upd_same])
    exact ⟨rfl, hE.1, fun _ => by unfold JM; rw [HU.out]; exact hE.2⟩
set_option maxHeartbeats 2000000 in
theorem mayK_free1 (hx : x = wd d a) (hp : p = pgAt d a) (h1 : ¬ x % 2 = 1) (h2 : ¬ p.1 = 2) (h3 : p.2 = 1) (hJ : JM n₀ bu w₀ d M pre W) (hfit : ∀ k, M k → k < W.heap.size) (hlen : pre.length ≤ 100000) :
    Calls Tryz.prog 63 #[cellV a x p, .pointer (some ⟨bu, 0, none⟩)] W (KOut n₀ bu w₀ d M (pre ++ [a]) W true) := by
  obtain ⟨R, V, hG⟩ := hJ
  have HG := Lib.hid hG
  have hS := hG.start.keep (.cells #[.int .i64 a, .int .i64 p.1, .int .i64 1, .bool false, .bool (decide (x / 2 % 2 = 1)), .bool (decide (x / 4 % 2 = 1)), .int .i64 (nOf x), .int .i64 (x / 1024 % 4194304), .int .i64 (x / 4294967296)] 85)
  have HS := Lib.hid hS
  have HU := Lib.hid (unus_free (d := d) (pre := pre) (a := a) (k := 1) (by rw [← hx]; exact h1) (by rw [← hp]; exact h3))
  have HF := Lib.hid hfit
  have hul := unus_len d pre 1
  have hu : decide (x % 2 = 1) = false := decide_eq_false h1
  have k1 : (p.1 == 2) = false := by simp [h2]
  have hvl := hS.len (k := 1) (by decide)
  have hvn : (V 1).n + 1 ≤ 4000000 := by omega
  unfold cellV
  rw [hu, h3]
  have X := hS.boxed
  have c0 := X.cell 1 (by decide)
  have cf := X.free 1
  have cl := X.lt
  have hbig := hS.big
  clear hx hp h1 h2 h3 hG hS hfit hu hvl X hul
  go_enter Tryz.func63, Tryz.ntmps63
  go_wp2
  obtain ⟨wc, hwc⟩ : ∃ wc, wc = W.alloc (.cells #[.int .i64 a, .int .i64 p.1, .int .i64 1, .bool false, .bool (decide (x / 2 % 2 = 1)), .bool (decide (x / 4 % 2 = 1)), .int .i64 (nOf x), .int .i64 (x / 1024 % 4194304), .int .i64 (x / 4294967296)] 85) := ⟨_, rfl⟩
  have y0 : wc.cell? ⟨W.heap.size, 0, none⟩ = some (.int .i64 a) := by rw [hwc]; simp [go_sem]
  have y2 : wc.cell? ⟨W.heap.size, 2, none⟩ = some (.int .i64 1) := by rw [hwc]; simp [go_sem]
  have yl : W.heap.size < wc.heap.size := by rw [hwc]; simp
  rw [← hwc] at c0 cf cl hbig HS ⊢
  have hrs : n₀ ≤ W.heap.size := HG.out.lst.big
  clear hwc
  go_region_law ((refine Ls.step_cat (by rfl) (.tmp 24) (.tmp 27) (by rfl) (by rfl) (by rfl) (HS.out.drew.row (k := 1) (.cells #[.int .i64 a] 3) (by decide)) (Ls.row_lit1 wc.drew a) (by simp; omega) (by omega) ?_; intro p' cp' w3 hc; have HM := Lib.hid (HS.out.drew.mid (k := 1) (by decide) hc); have HC3 := Lib.hid (HS.out.drew.cat (k := 1) (by decide) hc); have m0 := HM.out.1.cell 1 (by decide); have mf := HM.out.1.free 1; have ml := HM.out.1.lt; have hy := HS.out.drew.cat_ok (k := 1) (by decide) hc (r := 3) (Ls.upd_same _ _ _) (by decide) W.heap.size rfl hrs yl; have z2 := (World.cell?_of_block (a := ⟨W.heap.size, 2, none⟩) hy).trans y2; have z0 := (World.cell?_of_block (a := ⟨W.heap.size, 0, none⟩) hy).trans y0; have zl : W.heap.size < w3.heap.size := World.block_lt_of_cell? w3 _ z0; clear hc HM hy))
  all_goals clear c0 cf cl m0 mf ml y0 y2 yl z0 z2 zl
  all_goals go_wp2
  all_goals go_ret
  all_goals
    obtain ⟨R', hL, hK⟩ := HC3.out
    have hE := gath_end HG.out HF.out hL (by rw [hK 2 (by decide), Ls.upd_other _ _ (by decide), R3, Ls.upd_same])
    exact ⟨rfl, hE.1, fun _ => by unfold JM; rw [HU.out]; exact hE.2⟩
set_option maxHeartbeats 2000000 in
theorem mayK_free2 (hx : x = wd d a) (hp : p = pgAt d a) (h1 : ¬ x % 2 = 1) (h2 : ¬ p.1 = 2) (h3 : p.2 = 2) (hJ : JM n₀ bu w₀ d M pre W) (hfit : ∀ k, M k → k < W.heap.size) (hlen : pre.length ≤ 100000) :
    Calls Tryz.prog 63 #[cellV a x p, .pointer (some ⟨bu, 0, none⟩)] W (KOut n₀ bu w₀ d M (pre ++ [a]) W true) := by
  obtain ⟨R, V, hG⟩ := hJ
  have HG := Lib.hid hG
  have hS := hG.start.keep (.cells #[.int .i64 a, .int .i64 p.1, .int .i64 2, .bool false, .bool (decide (x / 2 % 2 = 1)), .bool (decide (x / 4 % 2 = 1)), .int .i64 (nOf x), .int .i64 (x / 1024 % 4194304), .int .i64 (x / 4294967296)] 85)
  have HS := Lib.hid hS
  have HU := Lib.hid (unus_free (d := d) (pre := pre) (a := a) (k := 2) (by rw [← hx]; exact h1) (by rw [← hp]; exact h3))
  have HF := Lib.hid hfit
  have hul := unus_len d pre 2
  have hu : decide (x % 2 = 1) = false := decide_eq_false h1
  have k1 : (p.1 == 2) = false := by simp [h2]
  have hvl := hS.len (k := 2) (by decide)
  have hvn : (V 2).n + 1 ≤ 4000000 := by omega
  unfold cellV
  rw [hu, h3]
  have X := hS.boxed
  have c0 := X.cell 2 (by decide)
  have cf := X.free 2
  have cl := X.lt
  have hbig := hS.big
  clear hx hp h1 h2 h3 hG hS hfit hu hvl X hul
  go_enter Tryz.func63, Tryz.ntmps63
  go_wp2
  obtain ⟨wc, hwc⟩ : ∃ wc, wc = W.alloc (.cells #[.int .i64 a, .int .i64 p.1, .int .i64 2, .bool false, .bool (decide (x / 2 % 2 = 1)), .bool (decide (x / 4 % 2 = 1)), .int .i64 (nOf x), .int .i64 (x / 1024 % 4194304), .int .i64 (x / 4294967296)] 85) := ⟨_, rfl⟩
  have y0 : wc.cell? ⟨W.heap.size, 0, none⟩ = some (.int .i64 a) := by rw [hwc]; simp [go_sem]
  have y2 : wc.cell? ⟨W.heap.size, 2, none⟩ = some (.int .i64 2) := by rw [hwc]; simp [go_sem]
  have yl : W.heap.size < wc.heap.size := by rw [hwc]; simp
  rw [← hwc] at c0 cf cl hbig HS ⊢
  have hrs : n₀ ≤ W.heap.size := HG.out.lst.big
  clear hwc
  go_region_law ((refine Ls.step_cat (by rfl) (.tmp 24) (.tmp 27) (by rfl) (by rfl) (by rfl) (HS.out.drew.row (k := 2) (.cells #[.int .i64 a] 3) (by decide)) (Ls.row_lit1 wc.drew a) (by simp; omega) (by omega) ?_; intro p' cp' w3 hc; have HM := Lib.hid (HS.out.drew.mid (k := 2) (by decide) hc); have HC3 := Lib.hid (HS.out.drew.cat (k := 2) (by decide) hc); have m0 := HM.out.1.cell 2 (by decide); have mf := HM.out.1.free 2; have ml := HM.out.1.lt; have hy := HS.out.drew.cat_ok (k := 2) (by decide) hc (r := 3) (Ls.upd_same _ _ _) (by decide) W.heap.size rfl hrs yl; have z2 := (World.cell?_of_block (a := ⟨W.heap.size, 2, none⟩) hy).trans y2; have z0 := (World.cell?_of_block (a := ⟨W.heap.size, 0, none⟩) hy).trans y0; have zl : W.heap.size < w3.heap.size := World.block_lt_of_cell? w3 _ z0; clear hc HM hy))
  all_goals clear c0 cf cl m0 mf ml y0 y2 yl z0 z2 zl
  all_goals go_wp2
  all_goals go_ret
  all_goals
    obtain ⟨R', hL, hK⟩ := HC3.out
    have hE := gath_end HG.out HF.out hL (by rw [hK 2 (by decide), Ls.upd_other _ _ (by decide), R3, Ls.upd_same])
    exact ⟨rfl, hE.1, fun _ => by unfold JM; rw [HU.out]; exact hE.2⟩
end
end Go.Proofs.YtccjelpfmkbmiaaGreatDoor
