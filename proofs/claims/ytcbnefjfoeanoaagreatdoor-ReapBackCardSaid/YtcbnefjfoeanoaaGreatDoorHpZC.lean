/-
  Merged texts: LsMoveR, LsMove, LsAll, PgRow.
-/
import Derived.Test.YtcbnefjfoeanoaaGreatDoorHpZB
import Derived.Deep.CutRange
import Derived.Sort.CutIn
import Derived.Deep.LoopGhost
import Derived.Below
import Derived.Laws.OwnMore
import Derived.Deep.Draws
import Derived.WalkKit
import Derived.Lib.Hide
section
namespace Go.Proofs.YtcbnefjfoeanoaaGreatDoor.Ls
open Go.Proofs.YtcbnefjfoeanoaaGreatDoor
set_option maxRecDepth 100000
open Go.RowKit Go.Shelf

theorem upd_upd {α : Type} (u : Nat → α) (k : Nat) (a b : α) : upd (upd u k a) k b = upd u k b := by
  funext j
  by_cases e : j = k
  · rw [e, upd_same, upd_same]
  · rw [upd_other _ _ e, upd_other _ _ e, upd_other _ _ e]

/-- Append, as a step of a region that draws its order, inside a fence. -/
theorem stepIn_cat {F : Fence} {n' : Nat} {w : World} {ops : Array Oper} {o : Oper} {a : Act} {K : Act → World → Prop} {Q : Exit → Act → World → Prop} {E : Prop} (hgd : o.guard = none) (s x : Operand)
    (ho : o.op = .call { callee := .builtin .append, args := #[s, x], argTypes := #[22, 22] }) {base B m cp n c : Nat} {p A : Option Addr} {xs ys : List Int}
    (hs : a.eval s = .slice p m cp) (hx : a.eval x = .slice A n c) (h : w.ownsRow base 3 1 (.slice p m cp) m (xs.map (Value.int .i64))) (hr : Row w B A n ys) (hb : base ≤ w.heap.size) (hlen : m + n ≤ 4000000)
    (hK : ∀ p' cp' w', Catted w base (.slice p m cp) ⟨p', m + n, cp'⟩ (xs ++ ys) w' → K (a.put o.dst (.slice p' (m + n) cp')) w') : if Region.wanted o (yielded ops a.tmps) then o.wpIn F n' Tryz.prog a w K Q else E := by
  have hw : Region.wanted o (yielded ops a.tmps) = true := by simp [Region.wanted, hgd]
  rw [if_pos hw]
  obtain ⟨p', cp', w', hrun, h1, h2, h3⟩ := run_cat (c := c) o.type h hr hb hlen
  refine ⟨?_, ?_⟩
  · simp [Oper.about, ho, resolve, Target.leads, Sem.run_pure]
  · rw [Oper.semAt_plain F _ _ (by rw [ho]; intro c hc'; cases hc')]
    simp only [execOp, ho, resolve, invoke, builtin, Sem.run_bind, Sem.run_pure, Result.andThen_ok, List.map_toArray, List.map_cons, List.map_nil, hs, hx, hrun]
    exact hK p' cp' w' ⟨h1, h2, h3⟩

theorem wpOpIn_cat {F : Fence} {n' i : Nat} {w : World} {ops : Array Oper} {o : Oper} {a : Act} {K : Act → World → Prop} {Q : Exit → Act → World → Prop} (hi : ops[i]? = some o) (hgd : o.guard = none) (s x : Operand)
    (ho : o.op = .call { callee := .builtin .append, args := #[s, x], argTypes := #[22, 22] }) {base B m cp n c : Nat} {p A : Option Addr} {xs ys : List Int}
    (hs : a.eval s = .slice p m cp) (hx : a.eval x = .slice A n c) (h : w.ownsRow base 3 1 (.slice p m cp) m (xs.map (Value.int .i64))) (hr : Row w B A n ys) (hb : base ≤ w.heap.size) (hlen : m + n ≤ 4000000)
    (hK : ∀ p' cp' w', Catted w base (.slice p m cp) ⟨p', m + n, cp'⟩ (xs ++ ys) w' → K (a.put o.dst (.slice p' (m + n) cp')) w') : wpOpIn F n' Tryz.prog ops Q i K a w :=
  wpOpIn_of hi (stepIn_cat hgd s x ho hs hx h hr hb hlen hK)
theorem Res.same {base : Nat} {W w w' : World} {R : Nat → Option Thing} (h : Res base W w R) (hb : Below base w w') (hs : ∀ r t, R r = some t → ∀ b, t.blk b → w'.heap[b]? = w.heap[b]?) : Res base W w' R :=
  ⟨h.bel.trans hb, fun r t hr => ⟨t.stab w w' (h.ok r t hr).1 hb.size (hs r t hr), fun b hbk => ⟨((h.ok r t hr).2 b hbk).1, Nat.lt_of_lt_of_le ((h.ok r t hr).2 b hbk).2 hb.size⟩⟩, h.apart⟩

/-- Between two rounds: xs has been moved. -/
structure MvL (base : Nat) (W5 wl : World) (Z : Nat → Prop) (g : Nat → List Int) (k d2 : Nat) (xs : List Int) (M : Nat → Prop) (W : World) (V : Nat → Sl) (R : Nat → Option Thing) : Prop where
  hold : Hold Z wl W
  res : Res base W5 W R
  r1 : R 1 = some (tOwn base V (upd g k (g k ++ xs)))
  r3 : R 3 = some (tBox d2 V)
  off : ∀ r t, R r = some t → ∀ b, t.blk b → ¬ Z b ∧ ¬ M b
  fit : ∀ b, M b → b < W.heap.size
  zfit : ∀ b, Z b → b < wl.heap.size
  low : ∀ b, b < base → Z b
  big : base ≤ W.heap.size
section
variable {base k d2 : Nat} {W5 wl W W' : World} {Z M M' : Nat → Prop} {g : Nat → List Int} {xs : List Int} {V : Nat → Sl} {R : Nat → Option Thing}
theorem MvL.bides (h : MvL base W5 wl Z g k d2 xs M W V R) (hz : Hold Z W W') (hs : ∀ j, j < W.heap.size → ¬ M j → W'.heap[j]? = W.heap[j]?) (hm : ∀ j, M' j → M j ∨ (W.heap.size ≤ j ∧ j < W'.heap.size)) : MvL base W5 wl Z g k d2 xs M' W' V R := by
  refine ⟨h.hold.trans hz, h.res.same ⟨hz.os, hz.tape, hz.output, hz.size, fun b hb => hz.block b (h.low b hb) (Nat.lt_of_lt_of_le hb h.big)⟩ (fun r t hr b hb => hs b ((h.res.ok r t hr).2 b hb).2 (h.off r t hr b hb).2), h.r1, h.r3, fun r t hr b hb => ⟨(h.off r t hr b hb).1, fun hM => ?_⟩, fun b hb => ?_, h.zfit, h.low, Nat.le_trans h.big hz.size⟩
  · rcases hm b hM with hm | hm
    · exact (h.off r t hr b hb).2 hm
    · have := ((h.res.ok r t hr).2 b hb).2
      omega
  · rcases hm b hb with hm | hm
    · exact Nat.lt_of_lt_of_le (h.fit b hm) hz.size
    · exact hm.2
theorem MvL.own (h : MvL base W5 wl Z g k d2 xs M W V R) : Own3 W base V (upd g k (g k ++ xs)) := h.res.own h.r1
theorem MvL.box (h : MvL base W5 wl Z g k d2 xs M W V R) : Box3 W d2 V := h.res.box h.r3

/-- A round's end: one number more. -/
theorem MvL.moved (h : MvL base W5 wl Z g k d2 xs M W V R) (hk : k < 3) {s : Sl} {a : Int} {o : Obj} {w2 : World} (hc : Catted (W.drew.alloc o) base (.slice (V k).a (V k).n (V k).c) s (g k ++ xs ++ [a]) w2) :
    KeptZ Z M W (w2.setCell ⟨d2, k, none⟩ (.slice s.a s.n s.c)) ∧ ∃ V' R', MvL base W5 wl Z g k d2 (xs ++ [a]) M (w2.setCell ⟨d2, k, none⟩ (.slice s.a s.n s.c)) V' R' := by
  have hbig := h.big
  have RD : Res base W5 W.drew R := h.res.drewN 1
  have R1 := RD.catted (b0 := base) h.big h.r1 hk (s := s) (xs := g k ++ xs ++ [a]) hc hc.own
  have hsz : (W.drew.alloc o).heap.size = W.heap.size + 1 := by simp
  have hs2 : W.heap.size + 1 ≤ w2.heap.size := by have := hc.grown.size; omega
  have R2 := R1.set (by omega) (r := 3) (d := d2) (k := k) (z := V) (by rw [upd_other _ _ (by decide)]; exact h.r3) hk s
  have lies : ∀ q, (Value.slice (V k).a (V k).n (V k).c).ownBlock = some q → (tOwn base V (upd g k (g k ++ xs))).blk q := fun q hq => by
    rw [ownBlock_slice] at hq
    cases hx : (V k).a with
    | none => rw [hx] at hq; cases hq
    | some x =>
      rw [hx] at hq
      simp at hq
      exact ⟨k, x, hk, hx, hq⟩
  have keep : ∀ b, b < W.heap.size → (Z b ∨ M b) → (w2.setCell ⟨d2, k, none⟩ (.slice s.a s.n s.c)).heap[b]? = W.heap[b]? := fun b hb hzm => by
    have n1 : ¬ (tOwn base V (upd g k (g k ++ xs))).blk b := fun hbk => by
      have := h.off 1 _ h.r1 b hbk
      rcases hzm with hz | hz
      · exact this.1 hz
      · exact this.2 hz
    have n2 : ¬ b = d2 := fun e => by
      have := h.off 3 _ h.r3 b e
      rcases hzm with hz | hz
      · exact this.1 hz
      · exact this.2 hz
    refine (Below.heap_setCell _ _ _ _ n2).trans ((hc.grown.block b (by omega) (fun e => n1 (lies b e.symm))).trans (Below.heap_alloc _ _ _ hb))
  have hH : Hold Z W (w2.setCell ⟨d2, k, none⟩ (.slice s.a s.n s.c)) :=
    ⟨hc.grown.os, hc.grown.tape, hc.grown.output, by simp [World.setCell]; omega, fun b hz hb => keep b hb (.inl hz)⟩
  refine ⟨⟨hH, fun b hM hb => keep b hb (.inr hM)⟩, upd V k s, _, h.hold.trans hH, R2, ?_, upd_same _ _ _, ?_, fun b hM => ?_, h.zfit, h.low, by simp [World.setCell]; omega⟩
  · rw [upd_other _ _ (by decide), upd_same, upd_upd, List.append_assoc]
  · intro r t hr b hb
    have old : ∀ b, (tOwn base V (upd g k (g k ++ xs))).blk b ∨ W.heap.size ≤ b → ¬ Z b ∧ ¬ M b := fun b hb => by
      rcases hb with hb | hb
      · exact h.off 1 _ h.r1 b hb
      · refine ⟨fun hz => ?_, fun hM => ?_⟩
        · have := h.zfit b hz
          have := h.hold.size
          omega
        · have := h.fit b hM
          omega
    by_cases e3 : r = 3
    · subst e3
      rw [upd_same] at hr
      cases hr
      exact h.off 3 _ h.r3 b hb
    · rw [upd_other _ _ e3] at hr
      by_cases e1 : r = 1
      · subst e1
        rw [upd_same] at hr
        cases hr
        obtain ⟨j, x, hj, hx, rfl⟩ := hb
        by_cases ej : j = k
        · subst ej
          rw [upd_same] at hx
          rcases hc.lies x hx with e | e
          · exact old _ (.inl (lies _ e))
          · exact old _ (.inr (by omega))
        · rw [upd_other _ _ ej] at hx
          exact old _ (.inl ⟨j, x, hj, hx, rfl⟩)
      · rw [upd_other _ _ e1] at hr
        exact h.off r t hr b hb
  · have := h.fit b hM
    simp [World.setCell]
    omega
end

/-- In a round's region: what has been carried out. -/
structure MvRd (V0 : World) (base k d2 : Nat) (s0 : Sl) (ys : List Int) (a : Int) (l : Nat → Bool) (x48 x49 x50 x51 x52 x53 x54 x55 : Value) (w : World) (s : Sl) : Prop where
  s0_ : l 0 = true → x48 = .int .i64 k
  s1 : l 1 = true → x49 = .int .i64 k
  s2 : l 2 = true → x50 = .pointer (some ⟨d2, k, none⟩)
  s3 : l 3 = true → x51 = .slice s0.a s0.n s0.c
  s4 : l 4 = true → x52 = .int .i64 a
  s7 : l 7 = true → x55 = .pointer (some ⟨d2, k, none⟩)
  p0 : l 5 = false → w = V0.drew
  p1 : l 5 = true → l 6 = false → w = V0.drew.alloc (.cells #[.int .i64 a] 3) ∧ x53 = .slice (some ⟨V0.heap.size, 0, none⟩) 1 1
  p2 : l 6 = true → l 8 = false → Catted (V0.drew.alloc (.cells #[.int .i64 a] 3)) base (.slice s0.a s0.n s0.c) s ys w ∧ x54 = .slice s.a s.n s.c
  p3 : l 8 = true → ∃ w2, Catted (V0.drew.alloc (.cells #[.int .i64 a] 3)) base (.slice s0.a s0.n s0.c) s ys w2 ∧ w = w2.setCell ⟨d2, k, none⟩ (.slice s.a s.n s.c)
  o6 : l 6 = true → l 5 = true
  o8 : l 8 = true → ∀ j, j < 8 → l j = true
section
variable {V0 w w' : World} {base k d2 : Nat} {s0 s : Sl} {ys : List Int} {a : Int} {l : Nat → Bool} {x48 x49 x50 x51 x52 x53 x54 x55 : Value}
theorem MvRd.start (x48 x49 x50 x51 x52 x53 x54 x55 : Value) (s : Sl) : MvRd V0 base k d2 s0 ys a (fun _ => false) x48 x49 x50 x51 x52 x53 x54 x55 V0.drew s :=
  ⟨(fun h => by cases h), (fun h => by cases h), (fun h => by cases h), (fun h => by cases h), (fun h => by cases h), (fun h => by cases h), fun _ => rfl, (fun h => by cases h), (fun h => by cases h), (fun h => by cases h), (fun h => by cases h), (fun h => by cases h)⟩
/-- Old blocks are as they were, but for the one that is appended to. -/
theorem MvRd.old (h : MvRd V0 base k d2 s0 ys a l x48 x49 x50 x51 x52 x53 x54 x55 w s) (h8 : l 8 = false) {b : Nat} (hb : b < V0.heap.size) (hne : ∀ x, s0.a = some x → ¬ b = x.block) : w.heap[b]? = V0.heap[b]? ∧ V0.heap.size ≤ w.heap.size := by
  cases h5 : l 5
  · rw [h.p0 h5]
    exact ⟨rfl, Nat.le_refl _⟩
  · cases h6 : l 6
    · rw [(h.p1 h5 h6).1]
      exact ⟨Below.heap_alloc _ _ _ hb, by simp⟩
    · have hc := (h.p2 h6 h8).1
      have hsz : (V0.drew.alloc (.cells #[.int .i64 a] 3)).heap.size = V0.heap.size + 1 := by simp
      refine ⟨(hc.grown.block b (by omega) (fun e => ?_)).trans (Below.heap_alloc _ _ _ hb), by have := hc.grown.size; omega⟩
      rw [ownBlock_slice] at e
      cases hx : s0.a with
      | none => rw [hx] at e; cases e
      | some x =>
        rw [hx] at e
        simp at e
        exact hne x hx e
theorem MvRd.no8 (h : MvRd V0 base k d2 s0 ys a l x48 x49 x50 x51 x52 x53 x54 x55 w s) {i : Nat} (hi : i < 8) (hl : l i = false) : l 8 = false := by
  cases e : l 8
  · rfl
  · rw [h.o8 e i hi] at hl; cases hl
theorem MvRd.no6 (h : MvRd V0 base k d2 s0 ys a l x48 x49 x50 x51 x52 x53 x54 x55 w s) (hl : l 5 = false) : l 6 = false := by
  cases e : l 6
  · rfl
  · rw [h.o6 e] at hl; cases hl
theorem o8_upd {i : Nat} (h : l 8 = true → ∀ j, j < 8 → l j = true) (hi : ¬ i = 8) : upd l i true 8 = true → ∀ j, j < 8 → upd l i true j = true := fun h8 j hj => by
  rw [upd_other _ _ (fun e => hi e.symm)] at h8
  by_cases e : j = i
  · rw [e, upd_same]
  · rw [upd_other _ _ e]; exact h h8 j hj
theorem MvRd.did0 (h : MvRd V0 base k d2 s0 ys a l x48 x49 x50 x51 x52 x53 x54 x55 w s) : MvRd V0 base k d2 s0 ys a (upd l 0 true) (.int .i64 k) x49 x50 x51 x52 x53 x54 x55 w s :=
  ⟨fun _ => rfl, h.s1, h.s2, h.s3, h.s4, h.s7, h.p0, h.p1, h.p2, h.p3, h.o6, o8_upd h.o8 (by decide)⟩
theorem MvRd.did1 (h : MvRd V0 base k d2 s0 ys a l x48 x49 x50 x51 x52 x53 x54 x55 w s) : MvRd V0 base k d2 s0 ys a (upd l 1 true) x48 (.int .i64 k) x50 x51 x52 x53 x54 x55 w s :=
  ⟨h.s0_, fun _ => rfl, h.s2, h.s3, h.s4, h.s7, h.p0, h.p1, h.p2, h.p3, h.o6, o8_upd h.o8 (by decide)⟩
theorem MvRd.did2 (h : MvRd V0 base k d2 s0 ys a l x48 x49 x50 x51 x52 x53 x54 x55 w s) : MvRd V0 base k d2 s0 ys a (upd l 2 true) x48 x49 (.pointer (some ⟨d2, k, none⟩)) x51 x52 x53 x54 x55 w s :=
  ⟨h.s0_, h.s1, fun _ => rfl, h.s3, h.s4, h.s7, h.p0, h.p1, h.p2, h.p3, h.o6, o8_upd h.o8 (by decide)⟩
theorem MvRd.did3 (h : MvRd V0 base k d2 s0 ys a l x48 x49 x50 x51 x52 x53 x54 x55 w s) : MvRd V0 base k d2 s0 ys a (upd l 3 true) x48 x49 x50 (.slice s0.a s0.n s0.c) x52 x53 x54 x55 w s :=
  ⟨h.s0_, h.s1, h.s2, fun _ => rfl, h.s4, h.s7, h.p0, h.p1, h.p2, h.p3, h.o6, o8_upd h.o8 (by decide)⟩
theorem MvRd.did4 (h : MvRd V0 base k d2 s0 ys a l x48 x49 x50 x51 x52 x53 x54 x55 w s) : MvRd V0 base k d2 s0 ys a (upd l 4 true) x48 x49 x50 x51 (.int .i64 a) x53 x54 x55 w s :=
  ⟨h.s0_, h.s1, h.s2, h.s3, fun _ => rfl, h.s7, h.p0, h.p1, h.p2, h.p3, h.o6, o8_upd h.o8 (by decide)⟩
theorem MvRd.did7 (h : MvRd V0 base k d2 s0 ys a l x48 x49 x50 x51 x52 x53 x54 x55 w s) : MvRd V0 base k d2 s0 ys a (upd l 7 true) x48 x49 x50 x51 x52 x53 x54 (.pointer (some ⟨d2, k, none⟩)) w s :=
  ⟨h.s0_, h.s1, h.s2, h.s3, h.s4, fun _ => rfl, h.p0, h.p1, h.p2, h.p3, h.o6, o8_upd h.o8 (by decide)⟩
theorem MvRd.did5 (h : MvRd V0 base k d2 s0 ys a l x48 x49 x50 x51 x52 x53 x54 x55 w s) (hl : l 5 = false) :
    MvRd V0 base k d2 s0 ys a (upd l 5 true) x48 x49 x50 x51 x52 (.slice (some ⟨V0.heap.size, 0, none⟩) 1 1) x54 x55 (V0.drew.alloc (.cells #[.int .i64 a] 3)) s := by
  have h6 := h.no6 hl
  exact ⟨h.s0_, h.s1, h.s2, h.s3, h.s4, h.s7, (fun e => by cases e), fun _ _ => ⟨rfl, rfl⟩, (fun e => by rw [show upd l 5 true 6 = l 6 from rfl, h6] at e; cases e), fun e => (by rw [show upd l 5 true 8 = l 8 from rfl] at e; have := h.o8 e 5 (by decide); rw [hl] at this; cases this), fun _ => rfl, o8_upd h.o8 (by decide)⟩
theorem MvRd.did6 (h : MvRd V0 base k d2 s0 ys a l x48 x49 x50 x51 x52 x53 x54 x55 w s) (h5 : l 5 = true) (h8 : l 8 = false) {s' : Sl} (hc : Catted (V0.drew.alloc (.cells #[.int .i64 a] 3)) base (.slice s0.a s0.n s0.c) s' ys w') :
    MvRd V0 base k d2 s0 ys a (upd l 6 true) x48 x49 x50 x51 x52 x53 (.slice s'.a s'.n s'.c) x55 w' s' :=
  ⟨h.s0_, h.s1, h.s2, h.s3, h.s4, h.s7, (fun e => by rw [show upd l 6 true 5 = l 5 from rfl, h5] at e; cases e), (fun _ e => by cases e), fun _ _ => ⟨hc, rfl⟩, (fun e => by rw [show upd l 6 true 8 = l 8 from rfl, h8] at e; cases e), fun _ => h5, o8_upd h.o8 (by decide)⟩
theorem MvRd.did8 (h : MvRd V0 base k d2 s0 ys a l x48 x49 x50 x51 x52 x53 x54 x55 w s) (hall : ∀ j, j < 8 → l j = true) (h8 : l 8 = false) :
    MvRd V0 base k d2 s0 ys a (upd l 8 true) x48 x49 x50 x51 x52 x53 x54 x55 (w.setCell ⟨d2, k, none⟩ (.slice s.a s.n s.c)) s :=
  ⟨h.s0_, h.s1, h.s2, h.s3, h.s4, h.s7, (fun e => by rw [show upd l 8 true 5 = l 5 from rfl, hall 5 (by decide)] at e; cases e), (fun _ e => by rw [show upd l 8 true 6 = l 6 from rfl, hall 6 (by decide)] at e; cases e), (fun _ e => by cases e), fun _ => ⟨w, (h.p2 (hall 6 (by decide)) h8).1, rfl⟩, h.o6, fun _ j hj => by rw [upd_other _ _ (by omega)]; exact hall j hj⟩
end
/-- The blocks that Move's loop keeps: what was there, the list that is gone through, its box, the iterator's. -/
def MvZ (base : Nat) (U : Nat → Sl) (d1 c0 b : Nat) : Prop := b < base ∨ (tOwn base U noLists).blk b ∨ b = d1 ∨ b = c0
def MvI (base : Nat) (W5 wl : World) (Z : Nat → Prop) (g : Nat → List Int) (k d2 : Nat) (xs : List Int) (M : Nat → Prop) (pre : List Nat) (W : World) : Prop := ∃ V R, MvL base W5 wl Z g k d2 (pre.map fun i => xs[i]?.getD 0) M W V R
theorem MvI.bides (base : Nat) (W5 wl : World) (Z : Nat → Prop) (g : Nat → List Int) (k d2 : Nat) (xs : List Int) : BidesZ Z (MvI base W5 wl Z g k d2 xs) :=
  fun _ _ _ _ _ ⟨V, R, h⟩ hz hs hm => ⟨V, R, h.bides hz hs hm⟩
theorem MvI.start {base k d1 d2 c0 : Nat} {W5 wl : World} {U V : Nat → Sl} {f g : Nat → List Int} {R : Nat → Option Thing} (h : Res base W5 wl R) (r0 : R 0 = some (tOwn base U f)) (r1 : R 1 = some (tOwn base V g)) (r2 : R 2 = some (tBox d1 U)) (r3 : R 3 = some (tBox d2 V))
    (hc : ∀ r t, R r = some t → ∀ b, t.blk b → b < c0) (hl : c0 < wl.heap.size) (hb : base ≤ wl.heap.size) (xs : List Int) : MvI base W5 wl (MvZ base U d1 c0) g k d2 xs (fun _ => False) [] wl := by
  refine ⟨V, fun r => if r = 1 ∨ r = 3 then R r else none, Hold.refl _ _, ⟨h.bel, fun r t hr => ?_, fun r s t t' hr hs hne => ?_⟩, ?_, ?_, fun r t hr b hbk => ⟨?_, fun h => h⟩, fun _ h => h.elim, fun b hz => ?_, fun b hz => .inl hz, hb⟩
  · split at hr
    · exact h.ok r t hr
    · cases hr
  · split at hr
    · split at hs
      · exact h.apart r s t t' hr hs hne
      · cases hs
    · cases hr
  · have e : upd g k (g k ++ ([] : List Nat).map fun i => xs[i]?.getD 0) = g := by
      funext j
      by_cases e : j = k
      · rw [e, upd_same]; simp
      · rw [upd_other _ _ e]
    simp only [true_or, if_true]
    rw [e]
    exact r1
  · simp only [or_true, if_true]
    exact r3
  · split at hr
    · rename_i hor
      have n0 : ¬ r = 0 := by omega
      have n2 : ¬ r = 2 := by omega
      rintro (hz | hz | hz | hz)
      · have := ((h.ok r t hr).2 b hbk).1
        omega
      · exact h.apart r 0 t _ hr r0 n0 b hbk hz
      · exact h.apart r 2 t _ hr r2 n2 b hbk hz
      · have := hc r t hr b hbk
        omega
    · cases hr
  · rcases hz with hz | hz | hz | hz
    · omega
    · exact ((h.ok 0 _ r0).2 b hz).2
    · exact ((h.ok 2 _ r2).2 b hz).2
    · omega

theorem down_map (xs : List Int) : (downL xs.length).map (fun i => xs[i]?.getD 0) = xs.reverse := by
  unfold downL
  rw [List.map_reverse]
  congr 1
  apply List.ext_getElem (by simp)
  intro i h1 h2
  simp [List.getElem?_eq_getElem h2]

/-- The tail of a slice, from a place on. -/
theorem tail_some {w : World} {base k st : Nat} {U : Nat → Sl} {f : Nat → List Int} (ho : Own3 w base U f) (hk : k < 3) (hs : st ≤ (U k).n) :
    Row w w.heap.size (Option.map (fun x => x.add st) (U k).a) ((U k).n - st) ((f k).drop st) ∧ ∀ x, Option.map (fun x => x.add st) (U k).a = some x → (tOwn base U f).blk x.block := by
  have hr := (ho.l3 k hk).1
  refine ⟨⟨by have := hr.1; simp; omega, fun hn => ?_⟩, fun x hx => ?_⟩
  · obtain ⟨b, off, e, hlt, hc⟩ := hr.2 (by omega)
    refine ⟨b, off + st, by rw [e]; simp [Addr.add], hlt, fun i hi => ?_⟩
    have := hc (st + i) (by omega)
    rw [← Nat.add_assoc] at this
    rw [this]
    simp [List.getD]
  · cases hy : (U k).a with
    | none => rw [hy] at hx; cases hx
    | some y =>
      rw [hy] at hx
      simp only [Option.map_some, Option.some.injEq] at hx
      refine ⟨k, y, hk, hy, ?_⟩
      rw [← hx]
      unfold Addr.add
      split <;> rfl
theorem tail_none {w : World} {base k st : Nat} {U : Nat → Sl} {f : Nat → List Int} (ho : Own3 w base U f) (hk : k < 3) (hc : (U k).c = st) (hs : st ≤ (U k).n) :
    Row w w.heap.size (U k).a ((U k).n - st) ((f k).drop st) ∧ ∀ x, (U k).a = some x → (tOwn base U f).blk x.block := by
  have hr := ho.l3 k hk
  refine ⟨⟨by have := hr.1.1; simp; omega, fun hn => by have := hr.2.1; omega⟩, fun x hx => ⟨k, x, hk, hx, rfl⟩⟩

def MoveOut (w : World) (F G : Nat → List Int) (er : Int) (e : Ending) (w' : World) : Prop := ∃ u v, e = .returned (.tuple #[(.agg #[.slice (u 0).a (u 0).n (u 0).c, .slice (u 1).a (u 1).n (u 1).c, .slice (u 2).a (u 2).n (u 2).c]), (.agg #[.slice (v 0).a (v 0).n (v 0).c, .slice (v 1).a (v 1).n (v 1).c, .slice (v 2).a (v 2).n (v 2).c]), .int .i64 er]) ∧ L3 w' w'.heap.size u F ∧ L3 w' w'.heap.size v G ∧ Below w.heap.size w w'
theorem cut_box {W W3 : World} {d k st q : Nat} {U : Nat → Sl} (h : Box3 W d U) (hk : k < 3) (e : W3 = (W.setCell ⟨d, k, none⟩ (.slice (U k).a st (U k).c)).drewN q) : Box3 W3 d (upd U k ⟨(U k).a, st, (U k).c⟩) := by
  rw [e]
  have := h.set hk ⟨(U k).a, st, (U k).c⟩
  exact this.drewN q
theorem cut_other {W W3 : World} {d k st q : Nat} {U : Nat → Sl} (e : W3 = (W.setCell ⟨d, k, none⟩ (.slice (U k).a st (U k).c)).drewN q) : W3.heap.size = W.heap.size ∧ ∀ b, ¬ b = d → W3.heap[b]? = W.heap[b]? := by
  rw [e]
  exact ⟨by simp [World.setCell], fun b hb => Below.heap_setCell _ _ _ _ hb⟩
theorem cut_same {W W3 : World} {d k st q : Nat} {U : Nat → Sl} (e : W3 = (W.setCell ⟨d, k, none⟩ (.slice (U k).a st (U k).c)).drewN q) : W3.os = W.os ∧ W3.tape = W.tape ∧ W3.output = W.output := by
  rw [e]
  exact ⟨rfl, rfl, rfl⟩
/-- What Move leaves: behind the cut of the list that was gone through, and behind the stores of both results. -/
structure MvEnd (w W5 W : World) (D d1 d2 : Nat) (U2 V : Nat → Sl) (F G : Nat → List Int) (W3 : World) : Prop where
  e1 : Box3 W3 d1 U2
  e2 : Box3 W3 d2 V
  e8 : Box3 W3 (w.heap.size + 1 + 1 + 1) noSl
  e9 : Box3 W3 (w.heap.size + 1 + 1 + 1 + 1) noSl
  def_ : W3.heap[D]? = some (.deferred (some []))
  far : w.heap.size + 5 ≤ D
  fin : ∀ W' : World, W'.os = W3.os → W'.tape = W3.tape → W'.output = W3.output → W'.heap.size = W3.heap.size → (∀ b, ¬ b = D → ¬ b = w.heap.size + 1 + 1 + 1 → ¬ b = w.heap.size + 1 + 1 + 1 + 1 → W'.heap[b]? = W3.heap[b]?) →
    L3 W' W'.heap.size U2 F ∧ L3 W' W'.heap.size V G ∧ Below w.heap.size w W'
theorem move_end {k d1 d2 D q3 st : Nat} {w W5 wl W W3 : World} {Z M : Nat → Prop} {U V : Nat → Sl} {f g : Nat → List Int} {xs : List Int} {R : Nat → Option Thing}
    (hL : MvL W5.heap.size W5 wl Z g k d2 xs M W V R) (hk : k < 3) (hU : Own3 W W5.heap.size U f) (hb1 : Box3 W d1 U) (hz1 : Z d1) (h1 : W5.heap.size ≤ d1) (hzU : ∀ j x, j < 3 → (U j).a = some x → Z x.block ∧ ¬ x.block = d1) (hst : st ≤ (U k).n)
    (h5 : W5.heap.size = w.heap.size + 5) (hw : Below w.heap.size w W5) (h8 : Box3 W5 (w.heap.size + 1 + 1 + 1) noSl) (h9 : Box3 W5 (w.heap.size + 1 + 1 + 1 + 1) noSl) (hdef : W.heap[D]? = some (.deferred (some []))) (hDM : M D) (hDZ : ¬ Z D)
    (e3 : W3 = (W.setCell ⟨d1, k, none⟩ (.slice (U k).a st (U k).c)).drewN q3) :
    MvEnd w W5 W D d1 d2 (upd U k ⟨(U k).a, st, (U k).c⟩) V (upd f k ((f k).take st)) (upd g k (g k ++ xs)) W3 := by
  have hb2 := hL.box
  have hV := hL.own
  have hDs : W5.heap.size ≤ D := Nat.le_of_not_lt fun h => hDZ (hL.low D h)
  have bel := hL.res.bel
  have b8 : Box3 W (w.heap.size + 1 + 1 + 1) noSl := h8.below bel (by omega)
  have b9 : Box3 W (w.heap.size + 1 + 1 + 1 + 1) noSl := h9.below bel (by omega)
  have n2 : ¬ d2 = d1 := fun e => (hL.off 3 _ hL.r3 d2 rfl).1 (e ▸ hz1)
  have n2s : W5.heap.size ≤ d2 := ((hL.res.ok 3 _ hL.r3).2 d2 rfl).1
  have nV : ∀ j x, j < 3 → (V j).a = some x → ¬ x.block = d1 ∧ ¬ x.block = D := fun j x hj hx =>
    ⟨fun e => (hL.off 1 _ hL.r1 x.block ⟨j, x, hj, hx, rfl⟩).1 (e ▸ hz1), fun e => (hL.off 1 _ hL.r1 x.block ⟨j, x, hj, hx, rfl⟩).2 (e ▸ hDM)⟩
  have nD1 : ¬ D = d1 := fun e => hDZ (e ▸ hz1)
  obtain ⟨s3, k3⟩ := cut_other e3
  obtain ⟨o1, o2, o3⟩ := cut_same e3
  refine ⟨cut_box hb1 hk e3, hb2.same (k3 _ n2) (by omega), b8.same (k3 _ (by omega)) (by omega), b9.same (k3 _ (by omega)) (by omega), (k3 D nD1).trans hdef, by omega, fun W' g1 g2 g3 g4 g5 => ?_⟩
  have k5 : ∀ b, ¬ b = D → ¬ b = d1 → ¬ b = w.heap.size + 1 + 1 + 1 → ¬ b = w.heap.size + 1 + 1 + 1 + 1 → W'.heap[b]? = W.heap[b]? := fun b e1 e2 e3 e4 => (g5 b e1 e3 e4).trans (k3 b e2)
  have U' : Own3 W' W5.heap.size U f := hU.same (fun j x hj hx => k5 _ (fun e => hDZ (e ▸ (hzU j x hj hx).1)) (hzU j x hj hx).2 (by have := (hU.block j hj hx).1; omega) (by have := (hU.block j hj hx).1; omega))
  have V' : Own3 W' W5.heap.size V (upd g k (g k ++ xs)) := hV.same (fun j x hj hx => k5 _ (nV j x hj hx).2 (nV j x hj hx).1 (by have := (hV.block j hj hx).1; omega) (by have := (hV.block j hj hx).1; omega))
  refine ⟨U'.l3.cut hk hst, V'.l3, ?_⟩
  refine ⟨g1.trans (o1.trans (bel.os.trans hw.os)), g2.trans (o2.trans (bel.tape.trans hw.tape)), g3.trans (o3.trans (bel.output.trans hw.output)), ?_, fun b hb => ?_⟩
  · have h6 := bel.size
    omega
  · exact (k5 b (by omega) (by omega) (by omega) (by omega)).trans ((bel.block b (by omega)).trans (hw.block b hb))
theorem drewN_heap (w : World) (q : Nat) : (w.drewN q).heap = w.heap := rfl
theorem drewN_os (w : World) (q : Nat) : (w.drewN q).os = w.os ∧ (w.drewN q).tape = w.tape ∧ (w.drewN q).output = w.output := ⟨rfl, rfl, rfl⟩
theorem put3_os (w : World) (b : Nat) (v : Nat → Sl) : (put3 w b v).os = w.os ∧ (put3 w b v).tape = w.tape ∧ (put3 w b v).output = w.output := ⟨rfl, rfl, rfl⟩
/-- .. and at the return. -/
theorem MvEnd.done {w W5 W W3 W4 W' : World} {D d1 d2 q : Nat} {U2 V : Nat → Sl} {F G : Nat → List Int} (h : MvEnd w W5 W D d1 d2 U2 V F G W3) (e : W4 = (put3 (put3 W3 (w.heap.size + 1 + 1 + 1) U2) (w.heap.size + 1 + 1 + 1 + 1) V).drewN q)
    (g1 : W'.os = W4.os) (g2 : W'.tape = W4.tape) (g3 : W'.output = W4.output) (g4 : W'.heap.size = W4.heap.size) (g5 : ∀ b, ¬ b = D → W'.heap[b]? = W4.heap[b]?) :
    (L3 W' W'.heap.size U2 F ∧ L3 W' W'.heap.size V G ∧ Below w.heap.size w W') ∧ Box3 W' (w.heap.size + 1 + 1 + 1) U2 ∧ Box3 W' (w.heap.size + 1 + 1 + 1 + 1) V := by
  have hfar := h.far
  have s4 : W4.heap.size = W3.heap.size := by
    rw [e, drewN_heap, put3_size, put3_size]
  have k4 : ∀ b, ¬ b = w.heap.size + 1 + 1 + 1 → ¬ b = w.heap.size + 1 + 1 + 1 + 1 → W4.heap[b]? = W3.heap[b]? := fun b e1 e2 => by
    rw [e, drewN_heap]
    exact (put3_other _ _ e2).trans (put3_other _ _ e1)
  have e8 : Box3 W4 (w.heap.size + 1 + 1 + 1) U2 := by
    rw [e]
    exact ((h.e8.put U2).putOther (by omega) V).drewN q
  have e9 : Box3 W4 (w.heap.size + 1 + 1 + 1 + 1) V := by
    rw [e]
    exact ((h.e9.putOther (by omega) U2).put V).drewN q
  have o4 : W4.os = W3.os ∧ W4.tape = W3.tape ∧ W4.output = W3.output := by
    rw [e, (drewN_os _ _).1, (drewN_os _ _).2.1, (drewN_os _ _).2.2, (put3_os _ _ _).1, (put3_os _ _ _).2.1, (put3_os _ _ _).2.2, (put3_os _ _ _).1, (put3_os _ _ _).2.1, (put3_os _ _ _).2.2]
    exact ⟨rfl, rfl, rfl⟩
  exact ⟨h.fin W' (g1.trans o4.1) (g2.trans o4.2.1) (g3.trans o4.2.2) (by omega) (fun b b1 b2 b3 => (g5 b b1).trans (k4 b b2 b3)), e8.same (g5 _ (by omega)) (by omega), e9.same (g5 _ (by omega)) (by omega)⟩
theorem MvEnd.def4 {w W5 W W3 W4 : World} {D d1 d2 q : Nat} {U2 V : Nat → Sl} {F G : Nat → List Int} (h : MvEnd w W5 W D d1 d2 U2 V F G W3) (e : W4 = (put3 (put3 W3 (w.heap.size + 1 + 1 + 1) U2) (w.heap.size + 1 + 1 + 1 + 1) V).drewN q) : W4.heap[D]? = some (.deferred (some [])) := by
  have hfar := h.far
  rw [e, drewN_heap]
  exact ((put3_other _ _ (by omega)).trans (put3_other _ _ (by omega))).trans h.def_

def Put8 (a : Act) (x48 x49 x50 x51 x52 x53 x54 x55 : Value) : Act := (((((((a.put (some 48) x48).put (some 49) x49).put (some 50) x50).put (some 51) x51).put (some 52) x52).put (some 53) x53).put (some 54) x54).put (some 55) x55
def MvRI (V0 : World) (base k d2 : Nat) (s0 : Sl) (ys : List Int) (z : Int) (a0 : Act) (l : Nat → Bool) (a : Act) (w : World) : Prop :=
  ∃ x48 x49 x50 x51 x52 x53 x54 x55 s, a = Put8 a0 x48 x49 x50 x51 x52 x53 x54 x55 ∧ MvRd V0 base k d2 s0 ys z l x48 x49 x50 x51 x52 x53 x54 x55 w s
end Go.Proofs.YtcbnefjfoeanoaaGreatDoor.Ls
end
section
namespace Go.Proofs.YtcbnefjfoeanoaaGreatDoor.Ls
open Go.Proofs.YtcbnefjfoeanoaaGreatDoor
set_option maxRecDepth 100000
open Go.RowKit Go.Shelf
attribute [local go_sem] Oper.semAt_some

/-- The frame of 'less, more := copied(from), copied(to)'. -/
def Put6 (a : Act) (x11 x12 x25 x26 x27 x28 : Value) : Act := (((((a.put (some 11) x11).put (some 12) x12).put (some 25) x25).put (some 26) x26).put (some 27) x27).put (some 28) x28
structure MvSt (base : Nat) (W5 : World) (u v : Nat → Sl) (f g : Nat → List Int) (l : Nat → Bool) (x11 x12 x25 x26 x27 x28 : Value) (U V : Nat → Sl) (d1 d2 : Nat) (wc : World) (R : Nat → Option Thing) : Prop where
  res : Res base W5 wc R
  s0 : l 0 = true → x25 = (.agg #[.slice (u 0).a (u 0).n (u 0).c, .slice (u 1).a (u 1).n (u 1).c, .slice (u 2).a (u 2).n (u 2).c])
  s1 : l 1 = true → x26 = (.agg #[.slice (U 0).a (U 0).n (U 0).c, .slice (U 1).a (U 1).n (U 1).c, .slice (U 2).a (U 2).n (U 2).c]) ∧ R 0 = some (tOwn base U f)
  s2 : l 2 = true → x27 = (.agg #[.slice (v 0).a (v 0).n (v 0).c, .slice (v 1).a (v 1).n (v 1).c, .slice (v 2).a (v 2).n (v 2).c])
  s3 : l 3 = true → x28 = (.agg #[.slice (V 0).a (V 0).n (V 0).c, .slice (V 1).a (V 1).n (V 1).c, .slice (V 2).a (V 2).n (V 2).c]) ∧ R 1 = some (tOwn base V g)
  s4 : l 4 = true → x11 = .pointer (some ⟨d1, 0, none⟩) ∧ R 2 = some (tBox d1 (if l 6 then U else noSl))
  s5 : l 5 = true → x12 = .pointer (some ⟨d2, 0, none⟩) ∧ R 3 = some (tBox d2 (if l 7 then V else noSl))
  o6 : l 6 = true → l 1 = true
  o7 : l 7 = true → l 3 = true
  o4 : l 6 = true → l 4 = true
  o5 : l 7 = true → l 5 = true
section
variable {base : Nat} {W5 wc wc' : World} {u v : Nat → Sl} {f g : Nat → List Int} {l : Nat → Bool} {x11 x12 x25 x26 x27 x28 : Value} {U V : Nat → Sl} {d1 d2 : Nat} {R : Nat → Option Thing}
theorem MvSt.start (x11 x12 x25 x26 x27 x28 : Value) : MvSt base W5 u v f g (fun _ => false) x11 x12 x25 x26 x27 x28 noSl noSl 0 0 W5.drew (fun _ => none) :=
  ⟨(Res.none_ W5 base).drewN 1, (fun h => by cases h), (fun h => by cases h), (fun h => by cases h), (fun h => by cases h), (fun h => by cases h), (fun h => by cases h), (fun h => by cases h), (fun h => by cases h), (fun h => by cases h), (fun h => by cases h)⟩
theorem MvSt.size (h : MvSt base W5 u v f g l x11 x12 x25 x26 x27 x28 U V d1 d2 wc R) (hb : base ≤ W5.heap.size) : base ≤ wc.heap.size := Nat.le_trans hb h.res.bel.size
theorem MvSt.did0 (h : MvSt base W5 u v f g l x11 x12 x25 x26 x27 x28 U V d1 d2 wc R) : MvSt base W5 u v f g (upd l 0 true) x11 x12 (.agg #[.slice (u 0).a (u 0).n (u 0).c, .slice (u 1).a (u 1).n (u 1).c, .slice (u 2).a (u 2).n (u 2).c]) x26 x27 x28 U V d1 d2 wc R :=
  ⟨h.res, fun _ => rfl, h.s1, h.s2, h.s3, h.s4, h.s5, h.o6, h.o7, h.o4, h.o5⟩
theorem MvSt.did2 (h : MvSt base W5 u v f g l x11 x12 x25 x26 x27 x28 U V d1 d2 wc R) : MvSt base W5 u v f g (upd l 2 true) x11 x12 x25 x26 (.agg #[.slice (v 0).a (v 0).n (v 0).c, .slice (v 1).a (v 1).n (v 1).c, .slice (v 2).a (v 2).n (v 2).c]) x28 U V d1 d2 wc R :=
  ⟨h.res, h.s0, h.s1, fun _ => rfl, h.s3, h.s4, h.s5, h.o6, h.o7, h.o4, h.o5⟩
theorem MvSt.did1 (h : MvSt base W5 u v f g l x11 x12 x25 x26 x27 x28 U V d1 d2 wc R) (hb : base ≤ W5.heap.size) (hl : l 6 = false) {U' : Nat → Sl} (ho : Own3 wc' wc.heap.size U' f) (hk : Below wc.heap.size wc wc') :
    MvSt base W5 u v f g (upd l 1 true) x11 x12 x25 (.agg #[.slice (U' 0).a (U' 0).n (U' 0).c, .slice (U' 1).a (U' 1).n (U' 1).c, .slice (U' 2).a (U' 2).n (U' 2).c]) x27 x28 U' V d1 d2 wc' (upd R 0 (some (tOwn base U' f))) :=
  ⟨h.res.copied (h.size hb) ho hk 0, h.s0, fun _ => ⟨rfl, rfl⟩, h.s2, h.s3, fun h4 => by
    have := h.s4 h4
    rw [hl] at this
    simp only [upd]
    simpa [hl] using this, h.s5, fun _ => rfl, h.o7, h.o4, h.o5⟩
theorem MvSt.did3 (h : MvSt base W5 u v f g l x11 x12 x25 x26 x27 x28 U V d1 d2 wc R) (hb : base ≤ W5.heap.size) (hl : l 7 = false) {V' : Nat → Sl} (ho : Own3 wc' wc.heap.size V' g) (hk : Below wc.heap.size wc wc') :
    MvSt base W5 u v f g (upd l 3 true) x11 x12 x25 x26 x27 (.agg #[.slice (V' 0).a (V' 0).n (V' 0).c, .slice (V' 1).a (V' 1).n (V' 1).c, .slice (V' 2).a (V' 2).n (V' 2).c]) U V' d1 d2 wc' (upd R 1 (some (tOwn base V' g))) :=
  ⟨h.res.copied (h.size hb) ho hk 1, h.s0, h.s1, h.s2, fun _ => ⟨rfl, rfl⟩, h.s4, fun h4 => by
    have := h.s5 h4
    rw [hl] at this
    simp only [upd]
    simpa [hl] using this, h.o6, fun _ => rfl, h.o4, h.o5⟩
theorem MvSt.did4 (h : MvSt base W5 u v f g l x11 x12 x25 x26 x27 x28 U V d1 d2 wc R) (hb : base ≤ W5.heap.size) (hl : l 6 = false) :
    MvSt base W5 u v f g (upd l 4 true) (.pointer (some ⟨wc.heap.size, 0, none⟩)) x12 x25 x26 x27 x28 U V wc.heap.size d2 (wc.alloc (.cells #[.slice (noSl 0).a (noSl 0).n (noSl 0).c, .slice (noSl 1).a (noSl 1).n (noSl 1).c, .slice (noSl 2).a (noSl 2).n (noSl 2).c] 25)) (upd R 2 (some (tBox wc.heap.size noSl))) :=
  ⟨h.res.boxed (h.size hb) noSl 2, h.s0, h.s1, h.s2, h.s3, fun _ => ⟨rfl, by simp [upd, hl]⟩, h.s5, (fun h6 => by rw [show upd l 4 true 6 = l 6 from rfl, hl] at h6; cases h6), h.o7, fun _ => rfl, h.o5⟩
theorem MvSt.did5 (h : MvSt base W5 u v f g l x11 x12 x25 x26 x27 x28 U V d1 d2 wc R) (hb : base ≤ W5.heap.size) (hl : l 7 = false) :
    MvSt base W5 u v f g (upd l 5 true) x11 (.pointer (some ⟨wc.heap.size, 0, none⟩)) x25 x26 x27 x28 U V d1 wc.heap.size (wc.alloc (.cells #[.slice (noSl 0).a (noSl 0).n (noSl 0).c, .slice (noSl 1).a (noSl 1).n (noSl 1).c, .slice (noSl 2).a (noSl 2).n (noSl 2).c] 25)) (upd R 3 (some (tBox wc.heap.size noSl))) :=
  ⟨h.res.boxed (h.size hb) noSl 3, h.s0, h.s1, h.s2, h.s3, h.s4, fun _ => ⟨rfl, by simp [upd, hl]⟩, h.o6, (fun h7 => by rw [show upd l 5 true 7 = l 7 from rfl, hl] at h7; cases h7), h.o4, fun _ => rfl⟩
theorem MvSt.did6 (h : MvSt base W5 u v f g l x11 x12 x25 x26 x27 x28 U V d1 d2 wc R) (hb : base ≤ W5.heap.size) (h1 : l 1 = true) (h4 : l 4 = true) :
    MvSt base W5 u v f g (upd l 6 true) x11 x12 x25 x26 x27 x28 U V d1 d2 (put3 wc d1 U) (upd R 2 (some (tBox d1 U))) :=
  ⟨h.res.put (h.size hb) (h.s4 h4).2 U, h.s0, h.s1, h.s2, h.s3, fun _ => ⟨(h.s4 h4).1, rfl⟩, h.s5, fun _ => h1, h.o7, fun _ => h4, h.o5⟩
theorem MvSt.did7 (h : MvSt base W5 u v f g l x11 x12 x25 x26 x27 x28 U V d1 d2 wc R) (hb : base ≤ W5.heap.size) (h3 : l 3 = true) (h5 : l 5 = true) :
    MvSt base W5 u v f g (upd l 7 true) x11 x12 x25 x26 x27 x28 U V d1 d2 (put3 wc d2 V) (upd R 3 (some (tBox d2 V))) :=
  ⟨h.res.put (h.size hb) (h.s5 h5).2 V, h.s0, h.s1, h.s2, h.s3, h.s4, fun _ => ⟨(h.s5 h5).1, rfl⟩, h.o6, fun _ => h3, h.o4, fun _ => h5⟩
end
def MvInv (base : Nat) (W5 : World) (u v : Nat → Sl) (f g : Nat → List Int) (a0 : Act) (l : Nat → Bool) (a : Act) (wc : World) : Prop :=
  ∃ x11 x12 x25 x26 x27 x28 U V d1 d2 R, a = Put6 a0 x11 x12 x25 x26 x27 x28 ∧ MvSt base W5 u v f g l x11 x12 x25 x26 x27 x28 U V d1 d2 wc R

theorem five_on {w W5 : World} {u v : Nat → Sl} {k : Nat} (h : W5 = (((((w.alloc (.cells #[.slice (u 0).a (u 0).n (u 0).c, .slice (u 1).a (u 1).n (u 1).c, .slice (u 2).a (u 2).n (u 2).c] 25)).alloc (.cells #[.slice (v 0).a (v 0).n (v 0).c, .slice (v 1).a (v 1).n (v 1).c, .slice (v 2).a (v 2).n (v 2).c] 25)).alloc (.cells #[.int .i64 k] 3)).alloc (.cells #[.slice none 0 0, .slice none 0 0, .slice none 0 0] 25)).alloc (.cells #[.slice none 0 0, .slice none 0 0, .slice none 0 0] 25))) :
    Box3 W5 w.heap.size u ∧ Box3 W5 (w.heap.size + 1) v ∧ W5.cell? ⟨w.heap.size + 1 + 1, 0, none⟩ = some (.int .i64 k) ∧ Box3 W5 (w.heap.size + 1 + 1 + 1) noSl ∧ Box3 W5 (w.heap.size + 1 + 1 + 1 + 1) noSl ∧ Below w.heap.size w W5 ∧ W5.heap.size = w.heap.size + 5 := by
  have b5 := Box3.new (w.alloc (.cells #[.slice (u 0).a (u 0).n (u 0).c, .slice (u 1).a (u 1).n (u 1).c, .slice (u 2).a (u 2).n (u 2).c] 25)) v 25
  have c6 := World.alloc_heap_new ((w.alloc (.cells #[.slice (u 0).a (u 0).n (u 0).c, .slice (u 1).a (u 1).n (u 1).c, .slice (u 2).a (u 2).n (u 2).c] 25)).alloc (.cells #[.slice (v 0).a (v 0).n (v 0).c, .slice (v 1).a (v 1).n (v 1).c, .slice (v 2).a (v 2).n (v 2).c] 25)) (.cells #[.int .i64 k] 3)
  have b8 := Box3.new (((w.alloc (.cells #[.slice (u 0).a (u 0).n (u 0).c, .slice (u 1).a (u 1).n (u 1).c, .slice (u 2).a (u 2).n (u 2).c] 25)).alloc (.cells #[.slice (v 0).a (v 0).n (v 0).c, .slice (v 1).a (v 1).n (v 1).c, .slice (v 2).a (v 2).n (v 2).c] 25)).alloc (.cells #[.int .i64 k] 3)) noSl 25
  have b9 := Box3.new ((((w.alloc (.cells #[.slice (u 0).a (u 0).n (u 0).c, .slice (u 1).a (u 1).n (u 1).c, .slice (u 2).a (u 2).n (u 2).c] 25)).alloc (.cells #[.slice (v 0).a (v 0).n (v 0).c, .slice (v 1).a (v 1).n (v 1).c, .slice (v 2).a (v 2).n (v 2).c] 25)).alloc (.cells #[.int .i64 k] 3)).alloc (.cells #[.slice (noSl 0).a (noSl 0).n (noSl 0).c, .slice (noSl 1).a (noSl 1).n (noSl 1).c, .slice (noSl 2).a (noSl 2).n (noSl 2).c] 25)) noSl 25
  simp only [World.size_alloc] at b5 c6 b8 b9
  have d6 := cell_of_row _ _ 0 _ _ _ c6
  rw [h]
  refine ⟨((((Box3.new w u 25).alloc _).alloc _).alloc _).alloc _, ((b5.alloc _).alloc _).alloc _, ?_, b8.alloc _, b9, ((((two_below w _ _).alloc (by simp; omega) _).alloc (by simp; omega) _).alloc (by simp; omega) _), by simp⟩
  refine (World.cell?_of_block (a := ⟨w.heap.size + 1 + 1, 0, none⟩) ((Below.heap_alloc _ _ _ (by simp)).trans (Below.heap_alloc _ _ _ (by simp)))).trans d6

set_option maxRecDepth 100000 in
set_option maxHeartbeats 4000000 in
theorem move_ok (B : Nat) (u v : Nat → Sl) (f g : Nat → List Int) (k m : Nat) (hk : k < 3) (w : World) (h : L3 w B u f) (h' : L3 w B v g) (hB : B ≤ w.heap.size) (hn : ∀ j, j < 3 → (u j).n ≤ 2000000) (hn' : ∀ j, j < 3 → (v j).n ≤ 2000000) (hm : m ≤ 9223372036854775807) :
    Calls Tryz.prog 146 #[(.agg #[.slice (u 0).a (u 0).n (u 0).c, .slice (u 1).a (u 1).n (u 1).c, .slice (u 2).a (u 2).n (u 2).c]), (.agg #[.slice (v 0).a (v 0).n (v 0).c, .slice (v 1).a (v 1).n (v 1).c, .slice (v 2).a (v 2).n (v 2).c]), .int .i64 k, .int .i64 m] w (MoveOut w (upd f k ((f k).take ((f k).length - m))) (upd g k (g k ++ ((f k).drop ((f k).length - m)).reverse)) 0) := by
  have h0 : (0 : Int) ≤ k := by omega
  have h3 : (k : Int) < 3 := by omega
  have hm0 : decide ((m : Int) < 0) = false := by simp
  refine (callsIn_wide (n := 1)).1 ?_
  refine callsIn_of_wp_marks Tryz.func146 rfl trivial ?_ rfl
  simp only [Tryz.ntmps146, List.size_toArray, List.length_cons, List.length_nil, Nat.reduceAdd, Nat.reduceSub, Array.replicate_succ, Array.replicate_zero, List.push_toArray, List.append_toArray, List.nil_append, List.cons_append]
  gi_wp2_with fail
  refine ⟨trivial, (callsIn_wide.2 (class_yes _ _ h0 h3)).mono ?_⟩
  rintro e w' ⟨rfl, rfl⟩
  gi_wp2_with fail
  obtain ⟨W5, hW5⟩ : ∃ W5, W5 = (((((w.alloc (.cells #[.slice (u 0).a (u 0).n (u 0).c, .slice (u 1).a (u 1).n (u 1).c, .slice (u 2).a (u 2).n (u 2).c] 25)).alloc (.cells #[.slice (v 0).a (v 0).n (v 0).c, .slice (v 1).a (v 1).n (v 1).c, .slice (v 2).a (v 2).n (v 2).c] 25)).alloc (.cells #[.int .i64 k] 3)).alloc (.cells #[.slice none 0 0, .slice none 0 0, .slice none 0 0] 25)).alloc (.cells #[.slice none 0 0, .slice none 0 0, .slice none 0 0] 25)) := ⟨_, rfl⟩
  rw [← hW5]
  obtain ⟨B4, B5, B6, B8, B9, BW0, HS5⟩ := five_on hW5
  have BW := Lib.hid BW0
  have HL : Hid (∀ W, Below W5.heap.size W5 W → Calls Tryz.prog 104 #[(.agg #[.slice (u 0).a (u 0).n (u 0).c, .slice (u 1).a (u 1).n (u 1).c, .slice (u 2).a (u 2).n (u 2).c])] W (COut W f)) := Lib.hid fun W hW => copied_any B u f W (h.over (BW.out.trans (hW.mono BW.out.size)) hB) (by have := BW.out.size; have := hW.size; omega) hn
  have HL' : Hid (∀ W, Below W5.heap.size W5 W → Calls Tryz.prog 104 #[(.agg #[.slice (v 0).a (v 0).n (v 0).c, .slice (v 1).a (v 1).n (v 1).c, .slice (v 2).a (v 2).n (v 2).c])] W (COut W g)) := Lib.hid fun W hW => copied_any B v g W (h'.over (BW.out.trans (hW.mono BW.out.size)) hB) (by have := BW.out.size; have := hW.size; omega) hn'
  clear BW0
  clear hW5
  refine wpIn_region_from (by kernel_rfl) (MvInv W5.heap.size W5 u v f g) ?dag ?start ?step ?done
  case dag => exact dag_of (by kernel_rfl)
  case start => exact ⟨undef, undef, undef, undef, undef, undef, noSl, noSl, 0, 0, _, (by simp only [Put6, Act.put, List.setIfInBounds_toArray, List.set_cons_succ, List.set_cons_zero]), MvSt.start _ _ _ _ _ _⟩
  case step =>
    rintro i o l a wc ho ⟨x11, x12, x25, x26, x27, x28, U, V, d1, d2, R, rfl, hs⟩ hl haft K hK
    have hi : i < 8 := (Array.getElem?_eq_some_iff.1 ho).1
    refine wpOpIn_of ho ?_
    rcases (show i = 0 ∨ i = 1 ∨ i = 2 ∨ i = 3 ∨ i = 4 ∨ i = 5 ∨ i = 6 ∨ i = 7 by omega) with rfl | rfl | rfl | rfl | rfl | rfl | rfl | rfl
    · obtain rfl := Option.some.inj ho
      have b4 := B4.below hs.res.bel B4.lt
      have c0 := b4.cell 0 (by decide)
      have c1 := b4.cell 1 (by decide)
      have c2 := b4.cell 2 (by decide)
      clear b4 ho haft hi B4 B5
      simp only [Put6, Act.put]
      go_simp
      exact hK _ _ ⟨x11, x12, (.agg #[.slice (u 0).a (u 0).n (u 0).c, .slice (u 1).a (u 1).n (u 1).c, .slice (u 2).a (u 2).n (u 2).c]), x26, x27, x28, U, V, d1, d2, R, (by simp only [Put6, Act.put, List.setIfInBounds_toArray, List.set_cons_succ, List.set_cons_zero]), hs.did0⟩
    · obtain rfl := Option.some.inj ho
      have e0 := hs.s0 (haft ⟨0, .data⟩ (by simp) rfl)
      subst e0
      have hl6 : l 6 = false := by
        cases e : l 6
        · rfl
        · rw [hs.o6 e] at hl; cases hl
      clear ho haft hi B4 B5
      simp only [Put6, Act.put]
      go_simp
      refine ⟨trivial, (callsIn_wide.2 (HL.out wc hs.res.bel)).mono ?_⟩
      rintro e w2 ⟨U', rfl, ho, hb⟩
      exact hK _ _ ⟨x11, x12, (.agg #[.slice (u 0).a (u 0).n (u 0).c, .slice (u 1).a (u 1).n (u 1).c, .slice (u 2).a (u 2).n (u 2).c]), (.agg #[.slice (U' 0).a (U' 0).n (U' 0).c, .slice (U' 1).a (U' 1).n (U' 1).c, .slice (U' 2).a (U' 2).n (U' 2).c]), x27, x28, U', V, d1, d2, _, (by simp only [Put6, Act.put, List.setIfInBounds_toArray, List.set_cons_succ, List.set_cons_zero]), hs.did1 (Nat.le_refl _) hl6 ho hb⟩
    · obtain rfl := Option.some.inj ho
      have b5 := B5.below hs.res.bel B5.lt
      have c0 := b5.cell 0 (by decide)
      have c1 := b5.cell 1 (by decide)
      have c2 := b5.cell 2 (by decide)
      clear b5 ho haft hi B4 B5
      simp only [Put6, Act.put]
      go_simp
      exact hK _ _ ⟨x11, x12, x25, x26, (.agg #[.slice (v 0).a (v 0).n (v 0).c, .slice (v 1).a (v 1).n (v 1).c, .slice (v 2).a (v 2).n (v 2).c]), x28, U, V, d1, d2, R, (by simp only [Put6, Act.put, List.setIfInBounds_toArray, List.set_cons_succ, List.set_cons_zero]), hs.did2⟩
    · obtain rfl := Option.some.inj ho
      have e0 := hs.s2 (haft ⟨2, .data⟩ (by simp) rfl)
      subst e0
      have hl7 : l 7 = false := by
        cases e : l 7
        · rfl
        · rw [hs.o7 e] at hl; cases hl
      clear ho haft hi B4 B5
      simp only [Put6, Act.put]
      go_simp
      refine ⟨trivial, (callsIn_wide.2 (HL'.out wc hs.res.bel)).mono ?_⟩
      rintro e w2 ⟨V', rfl, ho, hb⟩
      exact hK _ _ ⟨x11, x12, x25, x26, (.agg #[.slice (v 0).a (v 0).n (v 0).c, .slice (v 1).a (v 1).n (v 1).c, .slice (v 2).a (v 2).n (v 2).c]), (.agg #[.slice (V' 0).a (V' 0).n (V' 0).c, .slice (V' 1).a (V' 1).n (V' 1).c, .slice (V' 2).a (V' 2).n (V' 2).c]), U, V', d1, d2, _, (by simp only [Put6, Act.put, List.setIfInBounds_toArray, List.set_cons_succ, List.set_cons_zero]), hs.did3 (Nat.le_refl _) hl7 ho hb⟩
    · obtain rfl := Option.some.inj ho
      have hl6 : l 6 = false := by
        cases e : l 6
        · rfl
        · rw [hs.o4 e] at hl; cases hl
      clear ho haft hi B4 B5
      simp only [Put6, Act.put]
      go_simp
      exact hK _ _ ⟨.pointer (some ⟨wc.heap.size, 0, none⟩), x12, x25, x26, x27, x28, U, V, _, d2, _, (by simp only [Put6, Act.put, List.setIfInBounds_toArray, List.set_cons_succ, List.set_cons_zero]), hs.did4 (Nat.le_refl _) hl6⟩
    · obtain rfl := Option.some.inj ho
      have hl7 : l 7 = false := by
        cases e : l 7
        · rfl
        · rw [hs.o5 e] at hl; cases hl
      clear ho haft hi B4 B5
      simp only [Put6, Act.put]
      go_simp
      exact hK _ _ ⟨x11, .pointer (some ⟨wc.heap.size, 0, none⟩), x25, x26, x27, x28, U, V, d1, _, _, (by simp only [Put6, Act.put, List.setIfInBounds_toArray, List.set_cons_succ, List.set_cons_zero]), hs.did5 (Nat.le_refl _) hl7⟩
    · obtain rfl := Option.some.inj ho
      have l1 : l 1 = true := haft ⟨1, .data⟩ (by simp) rfl
      have l4 : l 4 = true := haft ⟨4, .data⟩ (by simp) rfl
      obtain ⟨e1, r1⟩ := hs.s1 l1
      obtain ⟨e4, r4⟩ := hs.s4 l4
      rw [hl] at r4
      have b := hs.res.box r4
      have c0 := b.cell 0 (by decide)
      have c1 := b.cell 1 (by decide)
      have c2 := b.cell 2 (by decide)
      have f0 := b.free 0
      have f1 := b.free 1
      have f2 := b.free 2
      have bl := b.lt
      have HS := Lib.hid (hs.did6 (Nat.le_refl _) l1 l4)
      subst e1 e4
      clear ho haft hi B4 B5 b
      simp only [Put6, Act.put]
      go_simp
      exact hK _ _ ⟨.pointer (some ⟨d1, 0, none⟩), x12, x25, (.agg #[.slice (U 0).a (U 0).n (U 0).c, .slice (U 1).a (U 1).n (U 1).c, .slice (U 2).a (U 2).n (U 2).c]), x27, x28, U, V, d1, d2, _, (by simp only [Put6, Act.put, List.setIfInBounds_toArray, List.set_cons_succ, List.set_cons_zero]), HS.out⟩
    · obtain rfl := Option.some.inj ho
      have l3 : l 3 = true := haft ⟨3, .data⟩ (by simp) rfl
      have l5 : l 5 = true := haft ⟨5, .data⟩ (by simp) rfl
      obtain ⟨e3, r3⟩ := hs.s3 l3
      obtain ⟨e5, r5⟩ := hs.s5 l5
      rw [hl] at r5
      have b := hs.res.box r5
      have c0 := b.cell 0 (by decide)
      have c1 := b.cell 1 (by decide)
      have c2 := b.cell 2 (by decide)
      have f0 := b.free 0
      have f1 := b.free 1
      have f2 := b.free 2
      have bl := b.lt
      have HS := Lib.hid (hs.did7 (Nat.le_refl _) l3 l5)
      subst e3 e5
      clear ho haft hi B4 B5 b
      simp only [Put6, Act.put]
      go_simp
      exact hK _ _ ⟨x11, .pointer (some ⟨d2, 0, none⟩), x25, x26, x27, (.agg #[.slice (V 0).a (V 0).n (V 0).c, .slice (V 1).a (V 1).n (V 1).c, .slice (V 2).a (V 2).n (V 2).c]), U, V, d1, d2, _, (by simp only [Put6, Act.put, List.setIfInBounds_toArray, List.set_cons_succ, List.set_cons_zero]), HS.out⟩
  case done =>
    rintro l a wc ⟨x11, x12, x25, x26, x27, x28, U, V, d1, d2, R, rfl, hs⟩ hall
    obtain ⟨e1, r1⟩ := hs.s1 (hall 1 (by simp))
    obtain ⟨e3, r3⟩ := hs.s3 (hall 3 (by simp))
    obtain ⟨e4, r4⟩ := hs.s4 (hall 4 (by simp))
    obtain ⟨e5, r5⟩ := hs.s5 (hall 5 (by simp))
    rw [if_pos (hall 6 (by simp))] at r4
    rw [if_pos (hall 7 (by simp))] at r5
    have HRS := Lib.hid hs.res
    have R1 := Lib.hid r1
    have R3 := Lib.hid r3
    have R4 := Lib.hid r4
    have R5 := Lib.hid r5
    have cc : wc.cell? ⟨w.heap.size + 1 + 1, 0, none⟩ = some (.int .i64 k) := (hs.res.bel.cell (p := ⟨w.heap.size + 1 + 1, 0, none⟩) (by rw [HS5]; show w.heap.size + 1 + 1 < _; omega)).trans B6
    have cu := (hs.res.box r4).cell k hk
    have zl1 := (hs.res.box r4).lt
    have zl2 : w.heap.size + 1 + 1 < wc.heap.size := by have := hs.res.bel.size; omega
    have hUn : (U k).n ≤ 2000000 := by
      have h1 := (hs.res.own r1).l3.len k hk
      have h2 := h.len k hk
      have h3 := hn k hk
      omega
    subst e1 e3 e4 e5
    clear hs hall r1 r3 r4 r5 B4 B5 B6
    simp only [Put6, Act.put, List.setIfInBounds_toArray, List.set_cons_succ, List.set_cons_zero]
    gi_wp2_with fail
    refine wpIn_wide.2 ?_
    obtain ⟨st, hst⟩ : ∃ st, st = (U k).n - m := ⟨_, rfl⟩
    have HT := Lib.hid hst
    have hsn : st ≤ (U k).n := by omega
    clear hst
    go_cut [13] from 29 to 39 (fun v wx => v = .int .i64 st ∧ ∃ q, wx = wc.drewN q)
    case first =>
      by_cases hmn : m ≤ (U k).n
      · have he : ((U k).n : Int) - m = st := by have := HT.out; omega
        go_quiet (fail)
        go_wp2_with fail
        go_meet
        exact ⟨rfl, _, rfl⟩
      · have he : (st : Int) = 0 := by have := HT.out; omega
        have he' : ((U k).n : Int) - (U k).n = 0 := by omega
        go_quiet (fail)
        go_wp2_with fail
        go_meet
        exact ⟨by rw [he], _, rfl⟩
    case rest =>
      obtain ⟨rfl, q, rfl⟩ := hcut
      gi_upto_region 5 with (fail)
      refine wpIn_wide.2 ?_
      go_cut [45] from 40 to 45 (fun v wx => v = .func (.func 164) #[] #[.pointer (some ⟨wc.heap.size, 0, none⟩)] ∧ ∃ (A : Option Addr) (c : Nat), wx = (wc.drewN q).alloc (.cells #[.slice A ((U k).n - st) c] 22) ∧ Hid (Row wc wc.heap.size A ((U k).n - st) ((f k).drop st) ∧ ∀ x, A = some x → (tOwn W5.heap.size U f).blk x.block))
      case first =>
        go_wp2_with fail
        · refine (backward_any _ _ _ _).mono ?_
          rintro e w2 ⟨rfl, rfl⟩
          go_wp2_with fail
          go_meet
          exact ⟨rfl, _, _, rfl, Lib.hid (tail_none (HRS.out.own R1.out) hk ‹(U k).c = st› hsn)⟩
        · refine (backward_any _ _ _ _).mono ?_
          rintro e w2 ⟨rfl, rfl⟩
          go_wp2_with fail
          go_meet
          exact ⟨rfl, _, _, rfl, Lib.hid (tail_some (HRS.out.own R1.out) hk hsn)⟩
      case rest =>
        obtain ⟨rfl, A, c, rfl, HA⟩ := hcut
        obtain ⟨xs, hxs⟩ : ∃ xs, xs = (f k).drop st := ⟨_, rfl⟩
        rw [← hxs] at HA
        have HXS := Lib.hid hxs
        clear hxs
        obtain ⟨wl, hwl⟩ : ∃ wl, wl = (wc.drewN q).alloc (.cells #[.slice A ((U k).n - st) c] 22) := ⟨_, rfl⟩
        have hlw : wl.heap.size = wc.heap.size + 1 := by rw [hwl]; simp
        have hbl : Below wc.heap.size wc wl := by rw [hwl]; exact (below_drawn (Below.refl _ _) q).alloc (Nat.le_refl _) _
        have hcl : wl.cell? ⟨wc.heap.size, 0, none⟩ = some (.slice A ((U k).n - st) c) := by
          rw [hwl]
          exact cell_of_row _ _ 0 _ _ _ (World.alloc_heap_new (wc.drewN q) (.cells #[.slice A ((U k).n - st) c] 22))
        have hb5 : W5.heap.size ≤ wc.heap.size := HRS.out.bel.size
        have RL := Lib.hid (HRS.out.next hb5 hbl)
        have hcb : ∀ r t, R r = some t → ∀ b, t.blk b → b < wc.heap.size := fun r t hr b hb => ((HRS.out.ok r t hr).2 b hb).2
        have ST := Lib.hid (MvI.start (k := k) RL.out R1.out R3.out R4.out R5.out hcb (by omega) (by omega) xs)
        have hzf : ∀ b, MvZ W5.heap.size U d1 wc.heap.size b → b < wl.heap.size := fun b hz => by
          rcases hz with hz | hz | hz | hz
          · omega
          · have := hcb 0 _ R1.out b hz; omega
          · have := hcb 2 _ R4.out b hz; omega
          · omega
        have HZF := Lib.hid hzf
        have CCL := Lib.hid ((hbl.cell (p := ⟨w.heap.size + 1 + 1, 0, none⟩) zl2).trans cc)
        rw [← hwl]
        have BG := Lib.hid (back_gives (MvZ W5.heap.size U d1 wc.heap.size) (fun _ => False) wc.heap.size wc.heap.size A ((U k).n - st) c xs wl (by omega) hcl (HA.out.1.below hbl) (by omega) (.inr (.inr (.inr rfl))) (fun x hx => .inr (.inl (HA.out.2 x hx))))
        clear hwl hcl hzf hcb
        gi_wp2_with fail
        refine range_givesZ (gf := 164) (lb := #[.pointer (some ⟨wc.heap.size, 0, none⟩)]) rfl (enters_of Tryz.func164 (by kernel_rfl) rfl) BG.out (fun _ => rfl) HZF.out (fun _ => False) (fun _ h => h.elim) (fun _ h => h.elim)
          (MvI W5.heap.size W5 wl (MvZ W5.heap.size U d1 wc.heap.size) g k d2 xs) (fun _ _ _ _ => False) (MvI.bides _ _ _ _ _ _ _ _) (fun _ _ _ _ _ _ h _ _ _ => h) ST.out ?round ?done ?stop
        case stop =>
          rintro D c M pre W _ _ _ h _
          exact h.elim
        case done =>
          rintro D M W hD hDW hM ⟨V', R', hL⟩ hdef
          have hnt : (U k).n - st = xs.length := by rw [HA.out.1.1]
          have hmv : ((downL ((U k).n - st)).map fun i => xs[i]?.getD 0) = xs.reverse := by rw [hnt]; exact down_map xs
          have hL' : MvL W5.heap.size W5 wl (MvZ W5.heap.size U d1 wc.heap.size) g k d2 xs.reverse M W V' R' := hmv ▸ hL
          have hU : Own3 W W5.heap.size U f := (RL.out.own R1.out).same (fun j x hj hx => hL'.hold.block _ (.inr (.inl ⟨j, x, hj, hx, rfl⟩)) ((RL.out.own R1.out).block j hj hx).2)
          have hb1 : Box3 W d1 U := (RL.out.box R4.out).same (hL'.hold.block d1 (.inr (.inr (.inl rfl))) (RL.out.box R4.out).lt) hL'.hold.size
          have cc : W.cell? ⟨w.heap.size + 1 + 1, 0, none⟩ = some (.int .i64 k) := hL'.hold.cell (.inl (by rw [HS5]; omega)) CCL.out
          have zl2 : w.heap.size + 1 + 1 < W.heap.size := by have := hL'.res.bel.size; omega
          have c1 := hb1.cell k hk
          have f1 := hb1.free k
          have l1 := hb1.lt
          have hcap : st ≤ (U k).c := by have := (hU.l3 k hk).2.1; omega
          have hcap2 : (U k).c ≤ 9223372036854775807 := by have := (hU.l3 k hk).2.2; unfold maxLen at this; omega
          have HL2 := Lib.hid hL'
          have HU := Lib.hid hU
          have HB1 := Lib.hid hb1
          have HD := Lib.hid hdef
          clear hL hL' hmv hU hb1 hdef
          dsimp only
          gi_upto_region 8 with (fail)
          refine wpIn_wide.2 ?_
          go_cut [] from 56 to 62 (fun wx => ∃ q, wx = (W.setCell ⟨d1, k, none⟩ (.slice (U k).a st (U k).c)).drewN q)
          case first =>
            go_region
            go_wp2_with fail
            go_meet
            exact ⟨1, rfl⟩
          case rest =>
            obtain ⟨q3, rfl⟩ := hcut
            have hDZ : ¬ MvZ W5.heap.size U d1 wc.heap.size D := fun hz => by have := HZF.out D hz; omega
            have hd1 : W5.heap.size ≤ d1 := ((HRS.out.ok 2 _ R4.out).2 d1 rfl).1
            obtain ⟨W3, hW3⟩ : ∃ W3, W3 = (W.setCell ⟨d1, k, none⟩ (.slice (U k).a st (U k).c)).drewN q3 := ⟨_, rfl⟩
            have ME := Lib.hid (move_end HL2.out hk HU.out HB1.out (.inr (.inr (.inl rfl))) hd1 (fun j x hj hx => ⟨.inr (.inl ⟨j, x, hj, hx, rfl⟩), fun e => HRS.out.apart 0 2 _ _ R1.out R4.out (by decide) x.block ⟨j, x, hj, hx, rfl⟩ e⟩) hsn HS5 BW.out B8 B9 HD.out hM hDZ hW3)
            rw [← hW3]
            have E1 := ME.out.e1
            have E2 := ME.out.e2
            have E8 := ME.out.e8
            have E9 := ME.out.e9
            have hsF : (f k).length - m = st := by
              have e1 := HU.out.l3.len k hk
              have e2 := HT.out
              omega
            have HSF := Lib.hid hsF
            have a0 := E1.cell 0 (by decide)
            have a1 := E1.cell 1 (by decide)
            have a2 := E1.cell 2 (by decide)
            have al := E1.lt
            have b0 := E2.cell 0 (by decide)
            have b1 := E2.cell 1 (by decide)
            have b2 := E2.cell 2 (by decide)
            have bl := E2.lt
            have p0 := E8.cell 0 (by decide)
            have p1 := E8.cell 1 (by decide)
            have p2 := E8.cell 2 (by decide)
            have pf0 := E8.free 0
            have pf1 := E8.free 1
            have pf2 := E8.free 2
            have pl := E8.lt
            have r0 := E9.cell 0 (by decide)
            have r1 := E9.cell 1 (by decide)
            have r2 := E9.cell 2 (by decide)
            have rf0 := E9.free 0
            have rf1 := E9.free 1
            have rf2 := E9.free 2
            have rl := E9.lt
            have hd2 : W5.heap.size ≤ d2 := ((HRS.out.ok 3 _ R5.out).2 d2 rfl).1
            have m1 : ¬ d2 = w.heap.size + 1 + 1 + 1 := by omega
            have m2 : ¬ d2 = w.heap.size + 1 + 1 + 1 + 1 := by omega
            have m3 : ¬ d1 = w.heap.size + 1 + 1 + 1 := by omega
            have m4 : ¬ d1 = w.heap.size + 1 + 1 + 1 + 1 := by omega
            clear E1 E2 E8 E9 hW3 c1 f1 l1 cc hsF hd2 hd1
            gi_upto_region 9 with (fail)
            refine wpIn_wide.2 ?_
            go_cut [10] from 63 to 64 (fun v wx => v = .int .i64 0 ∧ ∃ q, wx = (put3 (put3 W3 (w.heap.size + 1 + 1 + 1) (upd U k ⟨(U k).a, st, (U k).c⟩)) (w.heap.size + 1 + 1 + 1 + 1) V').drewN q)
            case first =>
              go_region
              go_wp2_with fail
              go_meet
              exact ⟨rfl, 1, rfl⟩
            case rest =>
              obtain ⟨rfl, q4, rfl⟩ := hcut
              gi_wp2_with fail
              refine leave_marksZ [D] _ (by simp) (fun E hE => by rw [List.mem_singleton.1 hE]; exact ME.out.def4 rfl) (fun W' g1 g2 g3 g4 g5 => ?_)
              obtain ⟨z1, z2, z3⟩ := ME.out.done rfl g1 g2 g3 g4 (fun b hb => g5 b (by simpa using hb))
              have y0 := z2.cell 0 (by decide)
              have y1 := z2.cell 1 (by decide)
              have y2 := z2.cell 2 (by decide)
              have x0 := z3.cell 0 (by decide)
              have x1 := z3.cell 1 (by decide)
              have x2 := z3.cell 2 (by decide)
              refine ⟨.tuple #[(.agg #[.slice (upd U k ⟨(U k).a, st, (U k).c⟩ 0).a (upd U k ⟨(U k).a, st, (U k).c⟩ 0).n (upd U k ⟨(U k).a, st, (U k).c⟩ 0).c, .slice (upd U k ⟨(U k).a, st, (U k).c⟩ 1).a (upd U k ⟨(U k).a, st, (U k).c⟩ 1).n (upd U k ⟨(U k).a, st, (U k).c⟩ 1).c, .slice (upd U k ⟨(U k).a, st, (U k).c⟩ 2).a (upd U k ⟨(U k).a, st, (U k).c⟩ 2).n (upd U k ⟨(U k).a, st, (U k).c⟩ 2).c]), (.agg #[.slice (V' 0).a (V' 0).n (V' 0).c, .slice (V' 1).a (V' 1).n (V' 1).c, .slice (V' 2).a (V' 2).n (V' 2).c]), .int .i64 0], ?_, upd U k ⟨(U k).a, st, (U k).c⟩, V', rfl, ?_⟩
              · clear a0 a1 a2 b0 b1 b2 p0 p1 p2 r0 r1 r2
                simp [results, Tryz.results146, go_sem, y0, y1, y2, x0, x1, x2]
              · rw [HSF.out, ← HXS.out]
                exact z1
        case round =>
          intro l M pre x W hl hM hlt hpre hI
          dsimp only [encB]
          gi_wp2_with fail
          refine ⟨KeptZ.refl _ _ _, fun o => ?_⟩
          obtain ⟨V', R', hL⟩ := hI
          have hlz : ¬ MvZ W5.heap.size U d1 wc.heap.size l := fun hz => by have := HZF.out l hz; omega
          have hL0 := hL.bides (hold_turned (W := W) o hlz) (fun j _ hj => World.putObj_heap_other (fun e => hj (e ▸ hM))) (fun j hj => .inl hj)
          obtain ⟨V0, hV0⟩ : ∃ V0, V0 = W.putObj l o := ⟨_, rfl⟩
          rw [← hV0] at hL0 ⊢
          have hplen : pre.length + 1 ≤ (U k).n - st := by have := hpre.length_le; rw [downL_length] at this; simpa using this
          have hvn : (V' k).n + 1 ≤ 4000000 := by
            have h1 := hL0.own.l3.len k hk
            rw [upd_same, List.length_append, List.length_map] at h1
            have h2 := h'.len k hk
            have h3 := hn' k hk
            omega
          obtain ⟨z, hz⟩ : ∃ z, z = xs[x]?.getD 0 := ⟨_, rfl⟩
          rw [← hz]
          have HZ' := Lib.hid hz
          have cc : V0.cell? ⟨w.heap.size + 1 + 1, 0, none⟩ = some (.int .i64 k) := hL0.hold.cell (.inl (by rw [HS5]; omega)) CCL.out
          have hcl : w.heap.size + 1 + 1 < W5.heap.size := by omega
          have X3 := hL0.box
          have far : ∀ x, (V' k).a = some x → ¬ (w.heap.size + 1 + 1 = x.block) ∧ ¬ (d2 = x.block) := fun x hx => by
            have h1 := (hL0.own.block k hk hx).1
            refine ⟨by omega, fun e => ?_⟩
            exact hL0.res.apart 1 3 _ _ hL0.r1 hL0.r3 (by decide) x.block ⟨k, x, hk, hx, rfl⟩ e.symm
          have hbig := hL0.big
          have HL0 := Lib.hid hL0
          clear hL hL0 hz hV0
          apply wpIn_block
          refine wpIn_region_from (by kernel_rfl) (MvRI V0 W5.heap.size k d2 (V' k) (g k ++ (pre.map fun i => xs[i]?.getD 0) ++ [z]) z) ?rdag ?rstart ?rstep ?rdone
          case rdag => exact dag_of (by kernel_rfl)
          case rstart => 
            refine ⟨undef, undef, undef, undef, undef, undef, undef, undef, ⟨none, 0, 0⟩, ?_, MvRd.start _ _ _ _ _ _ _ _ _⟩
            simp only [Put8, Act.put, List.setIfInBounds_toArray, List.set_cons_succ, List.set_cons_zero]
          case rdone =>
            rintro l' a' w' ⟨x48, x49, x50, x51, x52, x53, x54, x55, s, rfl, hs⟩ hall
            obtain ⟨w2, hc, rfl⟩ := hs.p3 (hall 8 (by simp))
            obtain ⟨hk1, V2, R2, hL2⟩ := HL0.out.moved hk hc
            refine ⟨hk1, V2, R2, ?_⟩
            rw [List.map_append, List.map_cons, List.map_nil, ← HZ'.out]
            exact hL2
          case rstep =>
            rintro i o' l' a' w' ho ⟨x48, x49, x50, x51, x52, x53, x54, x55, s, rfl, hs⟩ hl' haft K hK
            have hi : i < 9 := (Array.getElem?_eq_some_iff.1 ho).1
            rcases (show i = 0 ∨ i = 1 ∨ i = 2 ∨ i = 3 ∨ i = 4 ∨ i = 5 ∨ i = 6 ∨ i = 7 ∨ i = 8 by omega) with rfl | rfl | rfl | rfl | rfl | rfl | rfl | rfl | rfl
            · refine wpOpIn_of ho ?_
              obtain rfl := Option.some.inj ho
              have c1 : w'.cell? ⟨w.heap.size + 1 + 1, 0, none⟩ = some (.int .i64 k) := (World.cell?_of_block (a := ⟨w.heap.size + 1 + 1, 0, none⟩) (hs.old (hs.no8 (by decide) hl') (by omega) (fun x hx => (far x hx).1)).1).trans cc
              clear ho haft hi cc
              simp only [Put8, Act.put]
              go_simp
              exact hK _ _ ⟨.int .i64 k, x49, x50, x51, x52, x53, x54, x55, s, (by simp only [Put8, Act.put, List.setIfInBounds_toArray, List.set_cons_succ, List.set_cons_zero]), hs.did0⟩
            · refine wpOpIn_of ho ?_
              obtain rfl := Option.some.inj ho
              have c1 : w'.cell? ⟨w.heap.size + 1 + 1, 0, none⟩ = some (.int .i64 k) := (World.cell?_of_block (a := ⟨w.heap.size + 1 + 1, 0, none⟩) (hs.old (hs.no8 (by decide) hl') (by omega) (fun x hx => (far x hx).1)).1).trans cc
              clear ho haft hi cc
              simp only [Put8, Act.put]
              go_simp
              exact hK _ _ ⟨x48, .int .i64 k, x50, x51, x52, x53, x54, x55, s, (by simp only [Put8, Act.put, List.setIfInBounds_toArray, List.set_cons_succ, List.set_cons_zero]), hs.did1⟩
            · refine wpOpIn_of ho ?_
              obtain rfl := Option.some.inj ho
              have e1 := hs.s1 (haft ⟨1, .data⟩ (by simp) rfl)
              subst e1
              clear ho haft hi cc
              simp only [Put8, Act.put]
              go_simp
              exact hK _ _ ⟨x48, .int .i64 k, .pointer (some ⟨d2, k, none⟩), x51, x52, x53, x54, x55, s, (by simp only [Put8, Act.put, List.setIfInBounds_toArray, List.set_cons_succ, List.set_cons_zero]), hs.did2⟩
            · refine wpOpIn_of ho ?_
              obtain rfl := Option.some.inj ho
              have e2 := hs.s2 (haft ⟨2, .data⟩ (by simp) rfl)
              subst e2
              have c1 : w'.cell? ⟨d2, k, none⟩ = some (.slice (V' k).a (V' k).n (V' k).c) := (World.cell?_of_block (a := ⟨d2, k, none⟩) (hs.old (hs.no8 (by decide) hl') X3.lt (fun x hx => (far x hx).2)).1).trans (X3.cell k hk)
              clear ho haft hi cc
              simp only [Put8, Act.put]
              go_simp
              exact hK _ _ ⟨x48, x49, .pointer (some ⟨d2, k, none⟩), .slice (V' k).a (V' k).n (V' k).c, x52, x53, x54, x55, s, (by simp only [Put8, Act.put, List.setIfInBounds_toArray, List.set_cons_succ, List.set_cons_zero]), hs.did3⟩
            · refine wpOpIn_of ho ?_
              obtain rfl := Option.some.inj ho
              clear ho haft hi cc
              simp only [Put8, Act.put]
              go_simp
              exact hK _ _ ⟨x48, x49, x50, x51, .int .i64 z, x53, x54, x55, s, (by simp only [Put8, Act.put, List.setIfInBounds_toArray, List.set_cons_succ, List.set_cons_zero]), hs.did4⟩
            · refine wpOpIn_of ho ?_
              obtain rfl := Option.some.inj ho
              have e4 := hs.s4 (haft ⟨4, .data⟩ (by simp) rfl)
              have ew := hs.p0 hl'
              subst e4
              subst ew
              clear ho haft hi cc
              simp only [Put8, Act.put]
              go_simp
              exact hK _ _ ⟨x48, x49, x50, x51, .int .i64 z, .slice (some ⟨V0.heap.size, 0, none⟩) 1 1, x54, x55, s, (by simp only [Put8, Act.put, List.setIfInBounds_toArray, List.set_cons_succ, List.set_cons_zero]), hs.did5 hl'⟩
            · have eo := (Option.some.inj ho).symm
              have e3 := hs.s3 (haft ⟨3, .data⟩ (by rw [eo]; simp) rfl)
              have l5 := haft ⟨5, .data⟩ (by rw [eo]; simp) rfl
              obtain ⟨ew, e5⟩ := hs.p1 l5 hl'
              have h8 : l' 8 = false := hs.no8 (by decide) hl'
              subst e3 e5
              subst ew
              have RD : Res W5.heap.size W5 V0.drew R' := HL0.out.res.drewN 1
              have O1 := ((RD.own HL0.out.r1).alloc (.cells #[.int .i64 z] 3)).own k hk
              have L1 : Row (V0.drew.alloc (.cells #[.int .i64 z] 3)) (V0.heap.size + 1) (some ⟨V0.heap.size, 0, none⟩) 1 [z] := row_lit1 V0.drew z
              rw [upd_same] at O1
              refine wpOpIn_cat (c := 1) ho ?_ (.tmp 51) (.tmp 53) ?_ ?_ ?_ O1 L1 ?_ hvn ?_
              · rw [eo]
                rfl
              · rw [eo]
                rfl
              · simp only [Put8, Act.put, List.setIfInBounds_toArray, List.set_cons_succ, List.set_cons_zero]
                rfl
              · simp only [Put8, Act.put, List.setIfInBounds_toArray, List.set_cons_succ, List.set_cons_zero]
                rfl
              · simp
                omega
              · intro p' cp' w2 hc
                rw [eo]
                refine hK _ _ ⟨x48, x49, x50, .slice (V' k).a (V' k).n (V' k).c, x52, .slice (some ⟨V0.heap.size, 0, none⟩) 1 1, .slice p' ((V' k).n + 1) cp', x55, ⟨p', (V' k).n + 1, cp'⟩, ?_, hs.did6 l5 h8 hc⟩
                simp only [Put8, Act.put, List.setIfInBounds_toArray, List.set_cons_succ, List.set_cons_zero, List.getElem_toArray, List.getElem_cons_succ, List.getElem_cons_zero]
            · refine wpOpIn_of ho ?_
              obtain rfl := Option.some.inj ho
              have e0 := hs.s0_ (haft ⟨0, .data⟩ (by simp) rfl)
              subst e0
              clear ho haft hi cc
              simp only [Put8, Act.put]
              go_simp
              exact hK _ _ ⟨.int .i64 k, x49, x50, x51, x52, x53, x54, .pointer (some ⟨d2, k, none⟩), s, (by simp only [Put8, Act.put, List.setIfInBounds_toArray, List.set_cons_succ, List.set_cons_zero]), hs.did7⟩
            · refine wpOpIn_of ho ?_
              obtain rfl := Option.some.inj ho
              have hall : ∀ j, j < 8 → l' j = true := fun j hj => by
                match j, hj with
                | 0, _ => exact haft ⟨0, .phase⟩ (by simp) rfl
                | 1, _ => exact haft ⟨1, .phase⟩ (by simp) rfl
                | 2, _ => exact haft ⟨2, .phase⟩ (by simp) rfl
                | 3, _ => exact haft ⟨3, .phase⟩ (by simp) rfl
                | 4, _ => exact haft ⟨4, .phase⟩ (by simp) rfl
                | 5, _ => exact haft ⟨5, .phase⟩ (by simp) rfl
                | 6, _ => exact haft ⟨6, .phase⟩ (by simp) rfl
                | 7, _ => exact haft ⟨7, .data⟩ (by simp) rfl
              have e7 := hs.s7 (hall 7 (by decide))
              have e6 := (hs.p2 (hall 6 (by decide)) hl').2
              have hold := hs.old hl' X3.lt (fun x hx => (far x hx).2)
              have X4 := X3.same hold.1 hold.2
              have c1 := X4.cell k hk
              have f1 := X4.free k
              have l1 := X4.lt
              subst e7 e6
              clear ho haft hi cc hold X4
              simp only [Put8, Act.put]
              go_simp
              exact hK _ _ ⟨x48, x49, x50, x51, x52, x53, .slice s.a s.n s.c, .pointer (some ⟨d2, k, none⟩), s, (by simp only [Put8, Act.put, List.setIfInBounds_toArray, List.set_cons_succ, List.set_cons_zero]), hs.did8 hall hl'⟩
theorem move_bad (u v : Nat → Sl) (k m : Int) (w : World) (hk : isCl k = false) :
    Calls Tryz.prog 146 #[(.agg #[.slice (u 0).a (u 0).n (u 0).c, .slice (u 1).a (u 1).n (u 1).c, .slice (u 2).a (u 2).n (u 2).c]), (.agg #[.slice (v 0).a (v 0).n (v 0).c, .slice (v 1).a (v 1).n (v 1).c, .slice (v 2).a (v 2).n (v 2).c]), .int .i64 k, .int .i64 m] w (MoveOut w noLists noLists 1) := by
  have HK := Lib.hid hk
  clear hk
  go_enter Tryz.func146, Tryz.ntmps146
  go_wp2_with (go_at_call 103; refine (class_no _ _ HK.out).mono ?_; rintro e w' ⟨rfl, rfl⟩)
  refine bodyPost_ret (v := .tuple #[(.agg #[.slice (noSl 0).a (noSl 0).n (noSl 0).c, .slice (noSl 1).a (noSl 1).n (noSl 1).c, .slice (noSl 2).a (noSl 2).n (noSl 2).c]), (.agg #[.slice (noSl 0).a (noSl 0).n (noSl 0).c, .slice (noSl 1).a (noSl 1).n (noSl 1).c, .slice (noSl 2).a (noSl 2).n (noSl 2).c]), .int .i64 1]) ?_ rfl ?_
  rotate_left
  · exact ⟨noSl, noSl, rfl, L3.none_ _ _, L3.none_ _ _, (((two_below w _ _).alloc (by simp; omega) _).alloc (by simp; omega) _).alloc (by simp; omega) _⟩
  simp [results, Tryz.results146, go_sem, noSl]
theorem move_neg (u v : Nat → Sl) (k m : Int) (w : World) (hk : isCl k = true) (hm : m < 0) :
    Calls Tryz.prog 146 #[(.agg #[.slice (u 0).a (u 0).n (u 0).c, .slice (u 1).a (u 1).n (u 1).c, .slice (u 2).a (u 2).n (u 2).c]), (.agg #[.slice (v 0).a (v 0).n (v 0).c, .slice (v 1).a (v 1).n (v 1).c, .slice (v 2).a (v 2).n (v 2).c]), .int .i64 k, .int .i64 m] w (MoveOut w noLists noLists 1) := by
  obtain ⟨h0, h1⟩ := isCl_iff.1 hk
  clear hk
  go_enter Tryz.func146, Tryz.ntmps146
  go_wp2_with (go_at_call 103; refine (class_yes _ _ h0 h1).mono ?_; rintro e w' ⟨rfl, rfl⟩)
  refine bodyPost_ret (v := .tuple #[(.agg #[.slice (noSl 0).a (noSl 0).n (noSl 0).c, .slice (noSl 1).a (noSl 1).n (noSl 1).c, .slice (noSl 2).a (noSl 2).n (noSl 2).c]), (.agg #[.slice (noSl 0).a (noSl 0).n (noSl 0).c, .slice (noSl 1).a (noSl 1).n (noSl 1).c, .slice (noSl 2).a (noSl 2).n (noSl 2).c]), .int .i64 1]) ?_ rfl ?_
  rotate_left
  · exact ⟨noSl, noSl, rfl, L3.none_ _ _, L3.none_ _ _, (((two_below w _ _).alloc (by simp; omega) _).alloc (by simp; omega) _).alloc (by simp; omega) _⟩
  simp [results, Tryz.results146, go_sem, noSl]
end Go.Proofs.YtcbnefjfoeanoaaGreatDoor.Ls
end
section
namespace Go.Proofs.YtcbnefjfoeanoaaGreatDoor.Ls
open Go.Proofs.YtcbnefjfoeanoaaGreatDoor
set_option maxRecDepth 100000
open Go.RowKit

/-- A slice of lists: each element's three cells hold slices, which are rows. -/
def LRow (w : World) (B : Nat) (A : Option Addr) (n : Nat) (u : Nat → Nat → Sl) (f : Nat → Nat → List Int) : Prop :=
  0 < n → ∃ b off, A = some ⟨b, off, none⟩ ∧ b < B ∧ ∀ i, i < n → (∀ j, j < 3 → w.cell? ⟨b, off + i * 3 + j, none⟩ = some (.slice (u i j).a (u i j).n (u i j).c)) ∧ L3 w B (u i) (f i)
theorem LRow.below {w w' : World} {B n : Nat} {A : Option Addr} {u : Nat → Nat → Sl} {f : Nat → Nat → List Int} (h : LRow w B A n u f) (hb : Below B w w') : LRow w' B A n u f := fun hn => by
  obtain ⟨b, off, e, hlt, hc⟩ := h hn
  exact ⟨b, off, e, hlt, fun i hi => ⟨fun j hj => (hb.cell (p := ⟨b, off + i * 3 + j, none⟩) hlt).trans ((hc i hi).1 j hj), (hc i hi).2.below hb⟩⟩
theorem LRow.over {w w' : World} {B C n : Nat} {A : Option Addr} {u : Nat → Nat → Sl} {f : Nat → Nat → List Int} (h : LRow w B A n u f) (hb : Below C w w') (hB : B ≤ C) : LRow w' B A n u f := h.below (hb.mono hB)

def upTo (g : Nat → List Int) (j : Nat) : List Int := (List.range j).flatMap g
theorem upTo_succ (g : Nat → List Int) (j : Nat) : upTo g (j + 1) = upTo g j ++ g j := by simp [upTo, List.range_succ, List.flatMap_append]
def allOf (f : Nat → Nat → List Int) (n : Nat) : List Int := (List.range n).flatMap fun i => upTo (f i) 3
theorem allOf_succ (f : Nat → Nat → List Int) (n : Nat) : allOf f (n + 1) = allOf f n ++ upTo (f n) 3 := by simp [allOf, List.range_succ, List.flatMap_append]
theorem upTo_le (g : Nat → List Int) : ∀ {j k : Nat}, j ≤ k → (upTo g j).length ≤ (upTo g k).length
  | j, k, h => by
    induction k with
    | zero => have : j = 0 := by omega
              rw [this]; exact Nat.le_refl _
    | succ k ih =>
      by_cases e : j = k + 1
      · rw [e]; exact Nat.le_refl _
      · have := ih (by omega)
        rw [upTo_succ, List.length_append]
        omega
theorem allOf_le (f : Nat → Nat → List Int) : ∀ {j k : Nat}, j ≤ k → (allOf f j).length ≤ (allOf f k).length
  | j, k, h => by
    induction k with
    | zero => have : j = 0 := by omega
              rw [this]; exact Nat.le_refl _
    | succ k ih =>
      by_cases e : j = k + 1
      · rw [e]; exact Nat.le_refl _
      · have := ih (by omega)
        rw [allOf_succ, List.length_append]
        omega
theorem part_len (f : Nat → Nat → List Int) {n k j : Nat} (hk : k < n) (hj : j < 3) : (allOf f k).length + (upTo (f k) j).length + (f k j).length ≤ (allOf f n).length := by
  have h1 := allOf_le f (show k + 1 ≤ n by omega)
  have h2 := upTo_le (f k) (show j + 1 ≤ 3 by omega)
  rw [allOf_succ, List.length_append] at h1
  rw [upTo_succ, List.length_append] at h2
  omega

/-- A list of the call's own was returned. -/
def AllOut (w : World) (xs : List Int) (e : Ending) (w' : World) : Prop := ∃ s : Sl, e = .returned (.slice s.a s.n s.c) ∧ w'.ownsRow w.heap.size 3 1 (.slice s.a s.n s.c) s.n (xs.map (Value.int .i64)) ∧ Below w.heap.size w w'
structure Alling (w wr : World) (s : Sl) (xs : List Int) : Prop where
  own : wr.ownsRow w.heap.size 3 1 (.slice s.a s.n s.c) s.n (xs.map (Value.int .i64))
  bel : Below w.heap.size w wr
theorem Alling.len {w wr : World} {s : Sl} {xs : List Int} (h : Alling w wr s xs) : s.n = xs.length := by have := h.own.1; simpa using this.symm
theorem Alling.alloc {w wr : World} {s : Sl} {xs : List Int} (h : Alling w wr s xs) (o : Obj) : Alling w (wr.alloc o) s xs := ⟨h.own.alloc o, h.bel.alloc h.bel.size o⟩
theorem Alling.cat {w wr w2 : World} {s t : Sl} {xs ys : List Int} (h : Alling w wr s xs) (hc : Catted wr w.heap.size (.slice s.a s.n s.c) t ys w2) : Alling w w2 t ys :=
  ⟨hc.own, h.bel.grown hc.grown h.bel.size (fun k hk => (h.own.lt k hk).1)⟩

set_option maxHeartbeats 1000000 in
theorem all_any (B : Nat) (A : Option Addr) (n c : Nat) (u : Nat → Nat → Sl) (f : Nat → Nat → List Int) (w : World) (h : LRow w B A n u f) (hB : B ≤ w.heap.size) (hn : n ≤ 1000000) (hlen : (allOf f n).length ≤ 2000000) :
    Calls Tryz.prog 51 #[.slice A n c] w (AllOut w (allOf f n)) := by
  have HL := Lib.hid h
  have HN := Lib.hid hlen
  clear h hlen
  go_enter Tryz.func51, Tryz.ntmps51
  go_wp2
  go_loopw [3, 10] (fun a i wr => ∃ (s : Sl) (k : Nat), k ≤ n ∧ a = .slice s.a s.n s.c ∧ i = .int .i64 k ∧ Hid (Alling w wr s (allOf f k))) (fun _ i _ => n - (intOf i).toNat)
  case atStart => exact ⟨⟨none, 0, 0⟩, 0, Nat.zero_le _, rfl, rfl, Lib.hid ⟨World.ownsRow_nil _ _ _ _, Below.refl _ _⟩⟩
  case round =>
    obtain ⟨s, k, hk, rfl, rfl, HA⟩ := hrel
    by_cases hlt : k < n
    · obtain ⟨b, off, rfl, hbB, hc⟩ := HL.out.over HA.out.bel hB (by omega)
      obtain ⟨hcell, hl3⟩ := hc k hlt
      have c0 := hcell 0 (by decide)
      have c1 := hcell 1 (by decide)
      have c2 := hcell 2 (by decide)
      rw [Nat.add_zero] at c0
      have hbs : b < wr.heap.size := by have := HA.out.bel.size; omega
      have HR3 := Lib.hid hl3
      have hwr := HA.out.bel.size
      clear hc hcell hl3
      obtain ⟨wo, rfl⟩ : ∃ wo : World, wo = wr := ⟨_, rfl⟩
      go_wp2
      go_loopw [3, 15] (fun a i wr => ∃ (s : Sl) (j : Nat), j ≤ 3 ∧ a = .slice s.a s.n s.c ∧ i = .int .i64 j ∧ Hid (Alling w wr s (allOf f k ++ upTo (f k) j) ∧ Below B wo wr)) (fun _ i _ => 3 - (intOf i).toNat)
      case atStart =>
        refine ⟨s, 0, by omega, rfl, rfl, Lib.hid ⟨?_, (Below.refl _ _).alloc (by omega) _⟩⟩
        have := HA.out.alloc (.cells #[.slice (u k 0).a (u k 0).n (u k 0).c, .slice (u k 1).a (u k 1).n (u k 1).c, .slice (u k 2).a (u k 2).n (u k 2).c] 25)
        simpa [upTo] using this
      case round =>
        obtain ⟨t, j, hj, rfl, rfl, HI⟩ := hrel
        by_cases hlt3 : j < 3
        · have hix := index_of (u k) j hlt3
          have hsum : t.n + (u k j).n ≤ 4000000 := by
            have h1 := HI.out.1.len
            have h2 := HR3.out.len j hlt3
            have h3 := part_len f hlt hlt3
            have h4 := HN.out
            rw [List.length_append] at h1
            omega
          go_wp2_with (at_builtin; refine list_cat rfl _ _ rfl rfl rfl HI.out.1.own ((HR3.out j hlt3).1.below HI.out.2) HI.out.1.bel.size hsum ?_)
          intro p' cp' w2 hcat
          have hA2 := HI.out.1.cat hcat
          have B2 : Below B wr w2 := (Below.refl _ _).grown hcat.grown (by have := HI.out.1.bel.size; omega) (fun q hq => by have := (HI.out.1.own.lt q hq).1; omega)
          rw [← upTo_succ] at hA2
          have H2 := Lib.hid (And.intro hA2 (HI.out.2.trans B2))
          clear hcat hA2 B2
          go_wp2
          go_roundw
          case rel => exact ⟨⟨p', t.n + (u k j).n, cp'⟩, j + 1, by omega, rfl, by go_num, H2⟩
          case measure => simp [intOf]; omega
        · obtain rfl : j = 3 := by omega
          have H3 := HI.out.1
          rw [← allOf_succ] at H3
          have H4 := Lib.hid H3
          clear H3
          go_wp2
          go_roundw
          case rel => exact ⟨t, k + 1, by omega, rfl, by go_num, H4⟩
          case measure => simp [intOf]; omega
    · obtain rfl : k = n := by omega
      go_wp2
      go_ret
      exact ⟨s, rfl, HA.out.own, HA.out.bel⟩
theorem upTo_take (g : Nat → List Int) (j : Nat) : upTo g j ++ (g j).take (g j).length = upTo g (j + 1) := by rw [List.take_length, upTo_succ]

set_option maxHeartbeats 1000000 in
theorem rall_any (B : Nat) (A : Option Addr) (n c : Nat) (u : Nat → Nat → Sl) (f : Nat → Nat → List Int) (w : World) (h : LRow w B A n u f) (hB : B ≤ w.heap.size) (hn : n ≤ 1000000) (hlen : (allOf f n).length ≤ 2000000) :
    Calls Tryz.prog 123 #[.slice A n c] w (AllOut w (allOf f n)) := by
  have HL := Lib.hid h
  have HN := Lib.hid hlen
  clear h hlen
  go_enter Tryz.func123, Tryz.ntmps123
  go_wp2
  go_loopw [3, 4] (fun a i wr => ∃ (s : Sl) (k : Nat), k ≤ n ∧ a = .slice s.a s.n s.c ∧ i = .int .i64 k ∧ Hid (Alling w wr s (allOf f k))) (fun _ i _ => n - (intOf i).toNat)
  case atStart => exact ⟨⟨none, 0, 0⟩, 0, Nat.zero_le _, rfl, rfl, Lib.hid ⟨World.ownsRow_nil _ _ _ _, Below.refl _ _⟩⟩
  case round =>
    obtain ⟨s, k, hk, rfl, rfl, HA⟩ := hrel
    by_cases hlt : k < n
    · obtain ⟨b, off, rfl, hbB, hc⟩ := HL.out (by omega)
      have HC := Lib.hid (hc k hlt)
      clear hc
      obtain ⟨wo, rfl⟩ : ∃ wo : World, wo = wr := ⟨_, rfl⟩
      go_wp2
      go_loopw [3, 5] (fun a i wr => ∃ (s : Sl) (j : Nat), j ≤ 3 ∧ a = .slice s.a s.n s.c ∧ i = .int .i64 j ∧ Hid (Alling w wr s (allOf f k ++ upTo (f k) j))) (fun _ i _ => 3 - (intOf i).toNat)
      case atStart => exact ⟨s, 0, by omega, rfl, rfl, Lib.hid (by have := HA.out; simpa [upTo] using this)⟩
      case round =>
        obtain ⟨t, j, hj, rfl, rfl, HI⟩ := hrel
        by_cases hlt3 : j < 3
        · have HX := Lib.hid (part_len f hlt hlt3)
          obtain ⟨wi, rfl⟩ : ∃ wi : World, wi = wr := ⟨_, rfl⟩
          have hlt3' : (j : Int) < 3 := by omega
          go_wp2
          have J3 := Lib.hid hlt3
          go_loopw [3, 6] (fun a i wr => ∃ (s : Sl) (q : Nat), q ≤ (u k j).n ∧ a = .slice s.a s.n s.c ∧ i = .int .i64 q ∧ Hid (Alling w wr s (allOf f k ++ (upTo (f k) j ++ (f k j).take q)))) (fun _ i _ => (u k j).n - (intOf i).toNat)
          case atStart => exact ⟨t, 0, Nat.zero_le _, rfl, rfl, Lib.hid (by have := HI.out; simpa using this)⟩
          case round =>
            obtain ⟨p, q, hq, rfl, rfl, HQ⟩ := hrel
            have hl3 := (HC.out.2.over HQ.out.bel hB) j J3.out
            have hcj := ((HQ.out.bel.mono hB).cell (p := ⟨b, off + k * 3 + j, none⟩) hbB).trans (HC.out.1 j J3.out)
            have hbs : b < wr.heap.size := by have := HQ.out.bel.size; omega
            have hlen' := hl3.1.1.symm
            by_cases hltq : q < (u k j).n
            · obtain ⟨b2, off2, e2, hb2, hc2⟩ := hl3.1.2 (by omega)
              have hnum := hc2 q hltq
              have hbs2 : b2 < wr.heap.size := by have := HQ.out.bel.size; omega
              clear hc2 hl3
              have hq2 : q < 2000000 := by
                have h2 := HX.out
                have h4 := HN.out
                omega
              have hsum : p.n + 1 ≤ 4000000 := by
                have h1 := HQ.out.len
                have h2 := HX.out
                have h4 := HN.out
                rw [List.length_append, List.length_append, List.length_take] at h1
                omega
              go_wp2_with (at_builtin; refine list_cat rfl _ _ rfl rfl rfl (HQ.out.alloc _).own (row_lit1 _ _) (HQ.out.alloc _).bel.size hsum ?_)
              intro p' cp' w2 hcat
              have hA2 := (HQ.out.alloc _).cat hcat
              have H2 := Lib.hid hA2
              clear hcat hA2
              go_wp2
              go_roundw
              case rel =>
                exact ⟨⟨p', p.n + 1, cp'⟩, q + 1, by omega, rfl, by go_num, H2⟩
              case measure => simp [intOf]; omega
            · obtain rfl : q = (u k j).n := by omega
              have H2 := HQ.out
              rw [hlen', upTo_take] at H2
              have H3 := Lib.hid H2
              clear H2 hlen' hl3
              go_wp2
              go_roundw
              case rel => exact ⟨p, j + 1, J3.out, rfl, by go_num, H3⟩
              case measure => simp [intOf]; omega
        · obtain rfl : j = 3 := by omega
          have H3 := HI.out
          rw [← allOf_succ] at H3
          have H4 := Lib.hid H3
          clear H3
          go_wp2
          go_roundw
          case rel => exact ⟨t, k + 1, by omega, rfl, by go_num, H4⟩
          case measure => simp [intOf]; omega
    · obtain rfl : k = n := by omega
      go_wp2
      go_ret
      exact ⟨s, rfl, HA.out.own, HA.out.bel⟩
end Go.Proofs.YtcbnefjfoeanoaaGreatDoor.Ls
end
section
namespace Go.Proofs.YtcbnefjfoeanoaaGreatDoor.Cl
open Go.Proofs.YtcbnefjfoeanoaaGreatDoor
set_option maxRecDepth 100000
open Go.RowKit

/-- The slice (address a, n elements) holds the pages f 0 to f (n - 1), in a block below B. -/
def PRow (w : World) (B : Nat) (a : Option Addr) (n : Nat) (f : Nat → Int × Int) : Prop :=
  0 < n → ∃ b off, a = some ⟨b, off, none⟩ ∧ b < B ∧ ∀ i, i < n → w.cell? ⟨b, off + i * 2, none⟩ = some (.int .i64 (f i).1) ∧ w.cell? ⟨b, off + i * 2 + 1, none⟩ = some (.int .i64 (f i).2)

section
variable {w w' : World} {B B' n : Nat} {a : Option Addr} {f : Nat → Int × Int}
theorem PRow.at_ (h : PRow w B a n f) (hn : 0 < n) : ∃ b off, a = some ⟨b, off, none⟩ ∧ b < B ∧ ∀ i, i < n → w.cell? ⟨b, off + i * 2, none⟩ = some (.int .i64 (f i).1) ∧ w.cell? ⟨b, off + i * 2 + 1, none⟩ = some (.int .i64 (f i).2) := h hn
theorem PRow.below (h : PRow w B a n f) (hb : Below B w w') : PRow w' B a n f := fun hn => by
  obtain ⟨b, off, e, hlt, hc⟩ := h hn
  exact ⟨b, off, e, hlt, fun i hi => ⟨(hb.cell (p := ⟨b, off + i * 2, none⟩) hlt).trans (hc i hi).1, (hb.cell (p := ⟨b, off + i * 2 + 1, none⟩) hlt).trans (hc i hi).2⟩⟩
theorem PRow.more (h : PRow w B a n f) (hB : B ≤ B') : PRow w B' a n f := fun hn => by
  obtain ⟨b, off, e, hb, hc⟩ := h hn
  exact ⟨b, off, e, by omega, hc⟩
/-- .. over a call that left what was below C, the blocks of the row among it. -/
theorem PRow.over (h : PRow w B a n f) {C : Nat} (hb : Below C w w') (hB : B ≤ C) : PRow w' B a n f := h.below (hb.mono hB)
theorem PRow.alloc (h : PRow w B a n f) (o : Obj) (hB : B ≤ w.heap.size) : PRow (w.alloc o) B a n f := h.below ((Below.refl _ _).alloc hB o)
theorem PRow.empty (w : World) (B : Nat) (a : Option Addr) (f : Nat → Int × Int) : PRow w B a 0 f := fun h => absurd h (by omega)
theorem PRow.congr {g : Nat → Int × Int} (h : PRow w B a n f) (e : ∀ i, i < n → g i = f i) : PRow w B a n g := fun hn => by
  obtain ⟨b, off, ea, hb, hc⟩ := h hn
  exact ⟨b, off, ea, hb, fun i hi => by rw [e i hi]; exact hc i hi⟩
/-- A part of it: from page k on, m of them. -/
theorem PRow.part {b off k m : Nat} (h : PRow w B (some ⟨b, off, none⟩) n f) (hk : k + m ≤ n) : PRow w B (some ⟨b, off + k * 2, none⟩) m (fun i => f (k + i)) := fun hm => by
  obtain ⟨b', off', ea, hb, hc⟩ := h (by omega)
  simp at ea
  obtain ⟨rfl, rfl⟩ := ea
  refine ⟨b, off + k * 2, rfl, hb, fun i hi => ?_⟩
  have := hc (k + i) (by omega)
  rw [show off + k * 2 + i * 2 = off + (k + i) * 2 by omega]
  exact this

/-- Cell j of the pages' cells, and all of them. -/
def pcell (f : Nat → Int × Int) (j : Nat) : Value := .int .i64 (if j % 2 = 0 then (f (j / 2)).1 else (f (j / 2)).2)
def pcells (f : Nat → Int × Int) (n : Nat) : List Value := (List.range (n * 2)).map (pcell f)
theorem pcells_length (f : Nat → Int × Int) (n : Nat) : (pcells f n).length = n * 2 := by simp [pcells]
theorem pcells_at (f : Nat → Int × Int) (n j : Nat) (h : j < n * 2) : (pcells f n)[j]? = some (pcell f j) := by simp [pcells, h]
theorem pcells_fst (f : Nat → Int × Int) (n i : Nat) (h : i < n) : (pcells f n)[i * 2]? = some (.int .i64 (f i).1) := by
  rw [pcells_at f n _ (by omega)]
  simp [pcell]
theorem pcells_snd (f : Nat → Int × Int) (n i : Nat) (h : i < n) : (pcells f n)[i * 2 + 1]? = some (.int .i64 (f i).2) := by
  rw [pcells_at f n _ (by omega)]
  have e1 : (i * 2 + 1) % 2 = 1 := by omega
  have e2 : (i * 2 + 1) / 2 = i := by omega
  simp [pcell, e1, e2]

/-- f, with page i another. -/
def put (f : Nat → Int × Int) (i : Nat) (p : Int × Int) : Nat → Int × Int := fun j => if j = i then p else f j
theorem pcells_put (f : Nat → Int × Int) (n i : Nat) (p : Int × Int) : ((pcells f n).set (i * 2) (.int .i64 p.1)).set (i * 2 + 1) (.int .i64 p.2) = pcells (put f i p) n := by
  apply List.ext_getElem?
  intro j
  by_cases hj : j < n * 2
  · rw [pcells_at _ _ _ hj, List.getElem?_set]
    by_cases h1 : i * 2 + 1 = j
    · subst h1
      have e1 : (i * 2 + 1) % 2 = 1 := by omega
      have e2 : (i * 2 + 1) / 2 = i := by omega
      simp [pcell, e1, e2, put, pcells_length, hj]
    · rw [if_neg h1, List.getElem?_set]
      by_cases h0 : i * 2 = j
      · subst h0
        simp [pcell, put, pcells_length, hj]
      · rw [if_neg h0, pcells_at _ _ _ hj]
        have e : j / 2 ≠ i := by omega
        simp [pcell, put, e]
  · rw [List.getElem?_eq_none (by simp [pcells_length]; omega), List.getElem?_eq_none (by simp [pcells_length]; omega)]

/-- What the call itself made: a row at the head of a block of its own, not frozen, with room for c. -/
def PMine (w : World) (base e g n c : Nat) (f : Nat → Int × Int) : Prop :=
  w.ownsRow base e 2 (.slice (some ⟨g, 0, none⟩) n c) n (pcells f n) ∧ base ≤ g ∧ g < w.heap.size ∧ n ≤ c ∧ c ≤ maxLen

theorem PMine.cells {base e g c : Nat} (h : PMine w base e g n c f) (i : Nat) (hi : i < n) : w.cell? ⟨g, i * 2, none⟩ = some (.int .i64 (f i).1) ∧ w.cell? ⟨g, i * 2 + 1, none⟩ = some (.int .i64 (f i).2) :=
  ⟨(h.1.cellAt (i * 2) (by omega)).trans (pcells_fst f n i hi), (h.1.cellAt (i * 2 + 1) (by omega)).trans (pcells_snd f n i hi)⟩
theorem PMine.row {base e g c : Nat} (h : PMine w base e g n c f) : PRow w w.heap.size (some ⟨g, 0, none⟩) n f := fun _ =>
  ⟨g, 0, rfl, h.2.2.1, fun i hi => by simpa using h.cells i hi⟩
theorem PMine.free {base e g c : Nat} (h : PMine w base e g n c f) (j : Nat) : w.frozen? ⟨g, j, none⟩ = false := h.1.frozenAt j
theorem PMine.stored {base e g c : Nat} (h : PMine w base e g n c f) (i : Nat) (p : Int × Int) : PMine ((w.setCell ⟨g, i * 2, none⟩ (.int .i64 p.1)).setCell ⟨g, i * 2 + 1, none⟩ (.int .i64 p.2)) base e g n c (put f i p) := by
  refine ⟨?_, h.2.1, by simpa [World.setCell] using h.2.2.1, h.2.2.2.1, h.2.2.2.2⟩
  have h1 := (h.1.stored (i * 2) (.int .i64 p.1)).1
  have h2 := (h1.stored (i * 2 + 1) (.int .i64 p.2)).1
  rw [pcells_put] at h2
  exact h2
theorem PMine.congr {base e g c : Nat} {f' : Nat → Int × Int} (h : PMine w base e g n c f) (he : ∀ i, i < n → f' i = f i) : PMine w base e g n c f' := by
  have : pcells f' n = pcells f n := by
    apply List.map_congr_left
    intro j hj
    have := List.mem_range.1 hj
    unfold pcell
    rw [he (j / 2) (by omega)]
  exact ⟨this ▸ h.1, h.2⟩
end

/-- What a law on append leaves is such a row. -/
theorem pmine_of {w : World} {base e n : Nat} {v : Value} {f : Nat → Int × Int} (h : w.ownsRow base e 2 v n (pcells f n)) (hn : 0 < n) :
    ∃ g c, v = .slice (some ⟨g, 0, none⟩) n c ∧ PMine w base e g n c f := by
  rcases h.2 with ⟨_, h0⟩ | ⟨g, c, cur, rfl, hb, hh, hnc, hcm, _⟩
  · omega
  · refine ⟨g, c, rfl, h, hb, ?_, hnc, hcm⟩
    rcases Nat.lt_or_ge g w.heap.size with hlt | hge
    · exact hlt
    · rw [Array.getElem?_eq_none hge] at hh
      cases hh
end Go.Proofs.YtcbnefjfoeanoaaGreatDoor.Cl
end
