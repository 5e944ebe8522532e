/-
  Merged texts: HpHead, HpUsedP, HpUsed.
-/
import Derived.Test.YtcbnefjfoeanoaaDoorHpZG
import Derived.Test.YtcbnefjfoeanoaaDoorZHpMayP
import Derived.RangeFuncBox
section
namespace Go.Proofs.YtcbnefjfoeanoaaDoor
open Go.RowKit
set_option maxRecDepth 100000

def noCaches : Nat → Nat → List Int := fun _ _ => []
theorem lrow_none (w : World) (B : Nat) : ∃ U, Ls.LRow w B none 0 U noCaches := ⟨fun _ => Ls.noSl, fun h => absurd h (by omega)⟩
/-- A heap without caches may be. -/
def mayB0 (s : Hs) (d : Hd_) : Bool := mayH s d 0 noCaches
theorem may0_word {s : Hs} {d : Hd_} {a : Int} (h : mayB0 s d = true) (hb : ¬ Cl.bg d.f s.p.n a = 0) : s.w.n = 16 * s.p.n ∧ 16 ≤ a ∧ a < 16 + 16 * (s.p.n : Int) ∧ Hd.isWord (d.ws.getD (a - 16).toNat 0) = true := by
  unfold mayB0 mayH firstB at h
  simp only [Bool.and_eq_true, decide_eq_true_eq] at h
  obtain ⟨⟨_, hpm, hw, _⟩, hall, _⟩ := h
  have hin := Classical.byContradiction fun hn => hb (Cl.bg_no (f := d.f) (n := s.p.n) (a := a) hn)
  have hpos : 0 < Cl.bg d.f s.p.n a := by have := (Cl.bg_nonneg d.f s.p.n a).1; omega
  obtain ⟨c, hc, rfl⟩ := Cl.bg_some hpos
  have h1 := List.all_eq_true.1 hall c.1 (List.mem_map.2 ⟨c, hc, rfl⟩)
  refine ⟨hw, hin.2.1, hin.2.2, ?_⟩
  unfold cellAt cellB at h1
  split at h1
  · next hh => exact hh.1
  · exact (Bool.and_eq_true _ _ ▸ h1).1
def HeadOut (w : World) (V : Value) (er : Int) (e : Ending) (w' : World) : Prop := e = .returned (.tuple #[V, .int .i64 er]) ∧ Below w.heap.size w w'
def noHead : Value := .agg #[.bool false, .bool false, .bool false, .int .i64 0, .int .i64 0, .int .i64 0]
/-- The box of a head. -/
structure XBox (W : World) (b : Nat) : Prop where
  cell : ∀ k, k < 6 → W.cell? ⟨b, k, none⟩ = some (if k < 3 then .bool false else .int .i64 0)
  free : ∀ k, W.frozen? ⟨b, k, none⟩ = false
  lt : b < W.heap.size
theorem XBox.new (w : World) (t : TypeId) : XBox (w.alloc (.cells #[.bool false, .bool false, .bool false, .int .i64 0, .int .i64 0, .int .i64 0] t)) w.heap.size := by
  refine ⟨fun k hk => ?_, fun k => by simp [go_sem], by simp⟩
  match k, hk with
  | 0, _ => simp [go_sem]
  | 1, _ => simp [go_sem]
  | 2, _ => simp [go_sem]
  | 3, _ => simp [go_sem]
  | 4, _ => simp [go_sem]
  | 5, _ => simp [go_sem]
theorem XBox.next {W W' : World} {b : Nat} (h : XBox W b) (hb : Below W.heap.size W W') : XBox W' b :=
  ⟨fun k hk => (hb.cell (p := ⟨b, k, none⟩) h.lt).trans (h.cell k hk), fun k => (hb.frozen (p := ⟨b, k, none⟩) h.lt).trans (h.free k), Nat.lt_of_lt_of_le h.lt hb.size⟩
/-- A head is stored to its box. -/
def put6 (w : World) (b : Nat) (v0 v1 v2 v3 v4 v5 : Value) : World :=
  (((((w.setCell ⟨b, 0, none⟩ v0).setCell ⟨b, 1, none⟩ v1).setCell ⟨b, 2, none⟩ v2).setCell ⟨b, 3, none⟩ v3).setCell ⟨b, 4, none⟩ v4).setCell ⟨b, 5, none⟩ v5
theorem below_put6 {B : Nat} {a w : World} (h : Below B a w) {b : Nat} (hb : B ≤ b) (v0 v1 v2 v3 v4 v5 : Value) : Below B a (put6 w b v0 v1 v2 v3 v4 v5) :=
  (((((h.setCell (p := ⟨b, 0, none⟩) hb _).setCell (p := ⟨b, 1, none⟩) hb _).setCell (p := ⟨b, 2, none⟩) hb _).setCell (p := ⟨b, 3, none⟩) hb _).setCell (p := ⟨b, 4, none⟩) hb _).setCell (p := ⟨b, 5, none⟩) hb _
section
variable (s : Hs) (d : Hd_) (a : Int) (w : World)
end
end Go.Proofs.YtcbnefjfoeanoaaDoor
end
section
namespace Go.Proofs.YtcbnefjfoeanoaaDoor
open Go.RowKit
set_option maxRecDepth 100000

def usedF (d : Hd_) (pre : List Int) : List Int := pre.filter fun a => decide (wd d a % 2 = 1)
structure UGath (n₀ bu : Nat) (xs : List Int) (M : Nat → Prop) (W : World) (s : Ls.Sl) : Prop where
  box : Boxed W bu 22 (.slice s.a s.n s.c)
  free : ¬ M bu
  low : n₀ ≤ bu
  row : W.ownsRow n₀ 3 1 (.slice s.a s.n s.c) s.n (xs.map (Value.int .i64))
  off : ∀ g, (Value.slice s.a s.n s.c).ownBlock = some g → ¬ M g
def JU (n₀ bu : Nat) (d : Hd_) (M : Nat → Prop) (pre : List Int) (W : World) : Prop := ∃ s, UGath n₀ bu (usedF d pre) M W s
theorem UGath.bide {n₀ bu : Nat} {xs : List Int} {M M' : Nat → Prop} {W W' : World} {s : Ls.Sl} (h : UGath n₀ bu xs M W s) (hs : ∀ k, k < W.heap.size → ¬ M k → W'.heap[k]? = W.heap[k]?) (hm : ∀ k, M' k → M k ∨ (W.heap.size ≤ k ∧ k < W'.heap.size)) : UGath n₀ bu xs M' W' s := by
  have no : ∀ k, k < W.heap.size → ¬ M k → ¬ M' k := fun k hk hn h => by
    rcases hm k h with h | h
    · exact hn h
    · omega
  exact ⟨(hs _ h.box.lt h.free).trans h.box, no _ h.box.lt h.free, h.low, Ls.World.ownsRow.same h.row (fun g hg hlt => hs g hlt (h.off g hg)), fun g hg => no g (h.row.lt g hg).2 (h.off g hg)⟩
theorem bides_JU (n₀ bu : Nat) (d : Hd_) : Cl.Bides n₀ (JU n₀ bu d) := by
  rintro M M' pre W W' ⟨s, h⟩ hb hs hm
  exact ⟨s, h.bide hs hm⟩
theorem ugath_cat {n₀ bu : Nat} {xs ys : List Int} {M : Nat → Prop} {W W1 w3 : World} {s s' : Ls.Sl} {o : Obj} (h : UGath n₀ bu xs M W1 s) (hk : Cl.Kept n₀ M W W1) (hn : n₀ ≤ W1.heap.size) (hfit : ∀ k, M k → k < W.heap.size)
    (hc : Ls.Catted (W1.alloc o) n₀ (.slice s.a s.n s.c) s' ys w3) : UGath n₀ bu ys M (w3.setCell ⟨bu, 0, none⟩ (.slice s'.a s'.n s'.c)) s' ∧ Cl.Kept n₀ M W (w3.setCell ⟨bu, 0, none⟩ (.slice s'.a s'.n s'.c)) := by
  have hne := (h.box.alloc o).not_row (by decide) (h.row.alloc o)
  have hbx := (h.box.alloc o).kept hc.grown hne
  have hn2 := hbx.not_row (by decide) hc.own
  have hsz := hc.grown.size
  have hs1 := hk.1.size
  rw [World.size_alloc] at hsz
  have lies : ∀ g, (Value.slice s'.a s'.n s'.c).ownBlock = some g → ¬ M g := fun g hg hM => by
    rw [Ls.ownBlock_slice] at hg
    cases hx : s'.a with
    | none => rw [hx] at hg; cases hg
    | some x =>
      rw [hx] at hg
      simp at hg
      subst hg
      rcases hc.lies x hx with e | e
      · exact h.off _ e hM
      · have := hfit _ hM
        rw [World.size_alloc] at e
        omega
  refine ⟨⟨hbx.set _, h.free, h.low, ?_, lies⟩, ?_, fun k hM hkl => ?_⟩
  · exact hc.own.kept (grownBy_setCell' w3 bu _) (.inr hn2.symm)
  · refine hk.1.trans ((((Below.refl _ _).alloc hn o).grown hc.grown (by simp; omega) (fun k e => (h.row.lt k e).1)).setCell (p := ⟨bu, 0, none⟩) h.low _)
  · have k1 : ¬ k = bu := fun e => h.free (e ▸ hM)
    refine (Below.heap_setCell _ _ _ _ k1).trans ((hc.grown.block k (by simp; omega) (fun e => h.off k e.symm hM)).trans ((Below.heap_alloc _ _ _ (by omega)).trans (hk.2 k hM hkl)))
def KUOut (n₀ bu : Nat) (d : Hd_) (M : Nat → Prop) (pre : List Int) (W : World) (e : Ending) (W' : World) : Prop := e = .returned (.bool true) ∧ Cl.Kept n₀ M W W' ∧ (true = true → JU n₀ bu d M pre W')
section
variable (n₀ bu : Nat) (d : Hd_) (M : Nat → Prop) (pre : List Int) (a x : Int) (p : Int × Int) (W : World)
theorem usedK_no (hx : x = wd d a) (h1 : ¬ x % 2 = 1) (hJ : JU n₀ bu d M pre W) (hn : n₀ ≤ W.heap.size) :
    Calls Tryd.prog 37 #[cellV a x p, .pointer (some ⟨bu, 0, none⟩)] W (KUOut n₀ bu d M (pre ++ [a]) W) := by
  have hu : decide (x % 2 = 1) = false := decide_eq_false h1
  have HJ := Lib.hid hJ
  have HX := Lib.hid (And.intro hx h1)
  unfold cellV
  rw [hu]
  clear hJ hx h1 hu
  go_enter Tryd.func37, Tryd.ntmps37
  go_wp2
  go_ret
  have hb := (Below.refl W.heap.size W).alloc (Nat.le_refl _) (.cells #[.int .i64 a, .int .i64 p.1, .int .i64 p.2, .bool false, .bool (decide (x / 2 % 2 = 1)), .bool (decide (x / 4 % 2 = 1)), .int .i64 (nOf x), .int .i64 (x / 1024 % 4194304), .int .i64 (x / 4294967296)] 61)
  have e := bides_JU n₀ bu d M M pre W _ HJ.out (hb.mono hn) (fun k hk _ => hb.block k hk) (fun _ h => .inl h)
  refine ⟨rfl, ⟨hb.mono hn, fun k hM hk => hb.block k hk⟩, fun _ => ?_⟩
  have eu : usedF d (pre ++ [a]) = usedF d pre := by simp [usedF, List.filter_append, show ¬ wd d a % 2 = 1 by rw [← HX.out.1]; exact HX.out.2]
  unfold JU
  rw [eu]
  exact e
set_option maxHeartbeats 1000000 in
theorem usedK_yes (hx : x = wd d a) (h1 : x % 2 = 1) (hJ : JU n₀ bu d M pre W) (hn : n₀ ≤ W.heap.size) (hfit : ∀ k, M k → k < W.heap.size) (hlen : pre.length ≤ 100000) :
    Calls Tryd.prog 37 #[cellV a x p, .pointer (some ⟨bu, 0, none⟩)] W (KUOut n₀ bu d M (pre ++ [a]) W) := by
  obtain ⟨s, hs⟩ := hJ
  have hu : decide (x % 2 = 1) = true := decide_eq_true h1
  have hb := (Below.refl W.heap.size W).alloc (Nat.le_refl _) (.cells #[.int .i64 a, .int .i64 p.1, .int .i64 p.2, .bool true, .bool (decide (x / 2 % 2 = 1)), .bool (decide (x / 4 % 2 = 1)), .int .i64 (nOf x), .int .i64 (x / 1024 % 4194304), .int .i64 (x / 4294967296)] 61)
  have hg := hs.bide (M' := M) (W' := W.alloc (.cells #[.int .i64 a, .int .i64 p.1, .int .i64 p.2, .bool true, .bool (decide (x / 2 % 2 = 1)), .bool (decide (x / 4 % 2 = 1)), .int .i64 (nOf x), .int .i64 (x / 1024 % 4194304), .int .i64 (x / 4294967296)] 61)) (fun k hk _ => hb.block k hk) (fun _ h => .inl h)
  have HG := Lib.hid hg
  have HK := Lib.hid (show Cl.Kept n₀ M W _ from ⟨hb.mono hn, fun k _ hk => hb.block k hk⟩)
  have eu : usedF d (pre ++ [a]) = usedF d pre ++ [a] := by simp [usedF, List.filter_append, show wd d a % 2 = 1 by rw [← hx]; exact h1]
  have EU := Lib.hid eu
  have hl : s.n ≤ 100000 := by
    have h2 := hs.row.1
    have h3 : (usedF d pre).length ≤ pre.length := List.length_filter_le _ _
    simp at h2
    omega
  have HLIT : Hid (Row ((W.alloc (.cells #[.int .i64 a, .int .i64 p.1, .int .i64 p.2, .bool true, .bool (decide (x / 2 % 2 = 1)), .bool (decide (x / 4 % 2 = 1)), .int .i64 (nOf x), .int .i64 (x / 1024 % 4194304), .int .i64 (x / 4294967296)] 61)).alloc (.cells #[.int .i64 a] 3)) (W.heap.size + 1 + 1) (some ⟨W.heap.size + 1, 0, none⟩) 1 [a]) := Lib.hid (by
    have := Ls.row_lit1 (W.alloc (.cells #[.int .i64 a, .int .i64 p.1, .int .i64 p.2, .bool true, .bool (decide (x / 2 % 2 = 1)), .bool (decide (x / 4 % 2 = 1)), .int .i64 (nOf x), .int .i64 (x / 1024 % 4194304), .int .i64 (x / 4294967296)] 61)) a
    rwa [World.size_alloc] at this)
  have HF := Lib.hid hfit
  have c0 := hs.box.cell
  have cf := hs.box.frozen
  have cl := hs.box.lt
  unfold cellV
  rw [hu]
  clear hs hx h1 hu hb hg eu hfit hlen
  go_enter Tryd.func37, Tryd.ntmps37
  go_wp2_with (at_builtin; refine Ls.list_cat rfl _ _ rfl rfl rfl (HG.out.row.alloc _) HLIT.out (by simp; omega) (by omega) ?_)
  intro p' cp' w3 hcat
  have hE := ugath_cat HG.out HK.out (by simp; omega) HF.out hcat
  have hne := (HG.out.box.alloc (.cells #[.int .i64 a] 3)).not_row (by decide) (HG.out.row.alloc _)
  have hbx := (HG.out.box.alloc (.cells #[.int .i64 a] 3)).kept hcat.grown hne
  have y0 := hbx.cell
  have yf := hbx.frozen
  have yl := hbx.lt
  have HE := Lib.hid hE
  clear hcat hE hne hbx c0 cf cl
  go_wp2
  go_ret
  exact ⟨rfl, HE.out.2, fun _ => ⟨_, by rw [EU.out]; exact HE.out.1⟩⟩
end
end Go.Proofs.YtcbnefjfoeanoaaDoor
end
section
namespace Go.Proofs.YtcbnefjfoeanoaaDoor
open Go.RowKit
set_option maxRecDepth 100000

/-- What the calls ask of a heap's size, and of its words. -/
structure Fine (s : Hs) (d : Hd_) : Prop where
  wn : s.w.n ≤ 4000
  pn : s.p.n ≤ 200
  cn : s.c.n ≤ 100000
  hv : ∀ i, -9223372036854775808 ≤ d.ws.getD i 0 ∧ d.ws.getD i 0 ≤ 9223372036854775807
  len : (Ls.upTo d.F 3).length ≤ 2000000
theorem pmay0_any (s : Hs) (d : Hd_) (w : World) (hp : Hp w w.heap.size s d) (hz : Cl.Sz w) (hf : Fine s d) :
    Calls Tryd.prog 19 #[(.agg #[.slice s.w.a s.w.n s.w.c, .slice s.p.a s.p.n s.p.c, .slice (s.u 0).a (s.u 0).n (s.u 0).c, .slice (s.u 1).a (s.u 1).n (s.u 1).c, .slice (s.u 2).a (s.u 2).n (s.u 2).c, .slice s.c.a s.c.n s.c.c]), .slice none 0 0] w fun e w' => e = .returned (.bool (mayB0 s d)) ∧ Below w.heap.size w w' := by
  obtain ⟨U, hU⟩ := lrow_none w w.heap.size
  refine pmay_any s d none 0 0 U noCaches w hp hU (by omega) hz hf.wn (by have := hf.pn; omega) hf.cn ?_
  rw [show Ls.allOf (ahead d.F noCaches) (1 + 0) = Ls.upTo d.F 3 by simp [Ls.allOf, ahead]]
  exact hf.len
theorem mayH_all {s : Hs} {d : Hd_} {m : Nat} {F : Nat → Nat → List Int} (h : mayH s d m F = true) : firstB s d = true ∧ (Cl.allS d.f s.p.n).all (cellAt d) = true ∧ freeAll d s.p.n (1 + m) (ahead d.F F) = true ∧ (Ls.allOf (ahead d.F F) (1 + m)).Nodup := by
  unfold mayH at h
  simp only [Bool.and_eq_true, decide_eq_true_eq] at h
  exact ⟨h.1, h.2.1, h.2.2.1, h.2.2.2⟩
def usedL (s : Hs) (d : Hd_) : List Int := if mayB0 s d = true then usedF d (Cl.allS d.f s.p.n) else []
theorem asks_used (n₀ bu : Nat) (d : Hd_) (n : Nat) (hbu : n₀ ≤ bu) : Asks 37 #[.pointer (some ⟨bu, 0, none⟩)] n₀ d (fun _ => true) (Cl.allS d.f n) (JU n₀ bu d) := by
  intro M pre a W hpre hw hJ hz hfit
  have hl := hpre.length_le
  have hl2 := allS_len d.f n
  rw [List.length_append] at hl
  have hn : n₀ ≤ W.heap.size := by obtain ⟨s, h⟩ := hJ; have := h.box.lt; omega
  by_cases h1 : wd d a % 2 = 1
  · exact usedK_yes n₀ bu d M pre a _ _ W rfl h1 hJ hn hfit (by omega)
  · exact usedK_no n₀ bu d M pre a _ _ W rfl h1 hJ hn
theorem all_words {d : Hd_} {n : Nat} (h : (Cl.allS d.f n).all (cellAt d) = true) : (Cl.allS d.f n).all (holdsAt d fun _ => true) = true := List.all_eq_true.2 fun a ha => by
  have := (word_used (List.all_eq_true.1 h a ha)).1
  simp [holdsAt, this]
section
variable (s : Hs) (d : Hd_) (w : World)
theorem pused_any (hp : Hp w w.heap.size s d) (hz : Cl.Sz w) (hf : Fine s d) : Calls Tryd.prog 12 #[(.agg #[.slice s.w.a s.w.n s.w.c, .slice s.p.a s.p.n s.p.c, .slice (s.u 0).a (s.u 0).n (s.u 0).c, .slice (s.u 1).a (s.u 1).n (s.u 1).c, .slice (s.u 2).a (s.u 2).n (s.u 2).c, .slice s.c.a s.c.n s.c.c])] w (Ls.AllOut w (usedL s d)) := by
  have HP := Lib.hid hp
  have HZ := Lib.hid hz
  have HF := Lib.hid hf
  have hz0 := hz.pos
  have hb0 := (Below.refl w.heap.size w).alloc (Nat.le_refl _) (.cells #[.slice s.w.a s.w.n s.w.c, .slice s.p.a s.p.n s.p.c, .slice (s.u 0).a (s.u 0).n (s.u 0).c, .slice (s.u 1).a (s.u 1).n (s.u 1).c, .slice (s.u 2).a (s.u 2).n (s.u 2).c, .slice s.c.a s.c.n s.c.c] 28)
  cases hm : mayB0 s d
  · have HM := Lib.hid hm
    rw [show usedL s d = [] by simp [usedL, hm]]
    clear hp hz hf hm
    go_enter Tryd.func12, Tryd.ntmps12
    go_wp2_with fail
    refine (pmay0_any s d _ (HP.out.next hb0) (HZ.out.over hb0 hz0) HF.out).mono ?_
    rw [HM.out]
    rintro e w1 ⟨rfl, hb1⟩
    have HB := Lib.hid (hb0.trans (hb1.mono hb0.size))
    clear hb0 hb1
    go_wp2
    go_ret
    exact ⟨⟨none, 0, 0⟩, rfl, World.ownsRow_nil _ _ _ _, HB.out⟩
  · have HM := Lib.hid hm
    have hall := mayH_all hm
    have HA := Lib.hid hall
    rw [show usedL s d = usedF d (Cl.allS d.f s.p.n) by simp [usedL, hm]]
    clear hp hz hf hm hall
    go_enter Tryd.func12, Tryd.ntmps12
    go_wp2_with fail
    refine (pmay0_any s d _ (HP.out.next hb0) (HZ.out.over hb0 hz0) HF.out).mono ?_
    rw [HM.out]
    rintro e w1 ⟨rfl, hb1⟩
    have bx1 := (HBox.new w s 28).next hb1
    have B1 := Lib.hid (hb0.trans (hb1.mono hb0.size))
    have hs1 := bx1.lt
    have X1 := Lib.hid (bx1.next ((Below.refl w1.heap.size w1).alloc (Nat.le_refl _) (.cells #[.slice none 0 0] 22)))
    have q0 := X1.out.c0
    have q1 := X1.out.c1
    have q2 := X1.out.c2
    have q3 := X1.out.c3
    have q4 := X1.out.c4
    have q5 := X1.out.c5
    have ql := X1.out.lt
    clear hb0 hb1 bx1
    go_wp2_with fail
    have bu := B1.out.alloc (by omega) (.cells #[.slice none 0 0] 22)
    refine (every_any s d _ w.heap.size (fun _ => False) _ _ (fun _ => true) (JU w.heap.size w1.heap.size d) (HP.out.below bu) (by simp; omega) hz0 (HZ.out.over bu hz0) HA.out.1 (enters_of Tryd.func37 (by kernel_rfl) rfl) (bides_JU _ _ _)
      ⟨⟨none, 0, 0⟩, Boxed.new _ _ _, fun h => h, by omega, World.ownsRow_nil _ _ _ _, fun _ h => by cases h⟩ (fun _ h => h.elim) (asks_used _ _ _ _ (by omega))).mono ?_
    rw [all_words HA.out.2.1]
    rintro e w4 ⟨rfl, hk4, hj4⟩
    obtain ⟨M, s4, h4⟩ := hj4 rfl
    have c0 := h4.box.cell
    have cl := h4.box.lt
    have H4 := Lib.hid h4
    have B4 := Lib.hid (bu.trans hk4.1)
    clear h4 hk4 hj4 bu q0 q1 q2 q3 q4 q5 ql
    go_wp2
    go_ret
    exact ⟨s4, rfl, H4.out.row, B4.out⟩
end
end Go.Proofs.YtcbnefjfoeanoaaDoor
end
