/-
  Move's loop: what stands between two rounds, and in a round's region, whatever the order.
-/
import Derived.Test.YtdmclfolooiccaaGreatDoorALsBack
namespace Go.Proofs.YtdmclfolooiccaaGreatDoor.Ls
open Go.Proofs.YtdmclfolooiccaaGreatDoor
set_option maxRecDepth 100000
open Go.RowKit Go.Shelf

theorem upd_upd {α : Type} (u : Nat → α) (k : Nat) (a b : α) : upd (upd u k a) k b = upd u k b := by
  funext j
  by_cases e : j = k
  · rw [e, upd_same, upd_same]
  · rw [upd_other _ _ e, upd_other _ _ e, upd_other _ _ e]

/-- Append, as a step of a region that draws its order, inside a fence. -/
theorem stepIn_cat {F : Fence} {n' : Nat} {w : World} {ops : Array Oper} {o : Oper} {a : Act} {K : Act → World → Prop} {Q : Exit → Act → World → Prop} {E : Prop} (hgd : o.guard = none) (s x : Operand)
    (ho : o.op = .call { callee := .builtin .append, args := #[s, x], argTypes := #[22, 22] }) {base B m cp n c : Nat} {p A : Option Addr} {xs ys : List Int}
    (hs : a.eval s = .slice p m cp) (hx : a.eval x = .slice A n c) (h : w.ownsRow base 3 1 (.slice p m cp) m (xs.map (Value.int .i64))) (hr : Row w B A n ys) (hb : base ≤ w.heap.size) (hlen : m + n ≤ 4000000)
    (hK : ∀ p' cp' w', Catted w base (.slice p m cp) ⟨p', m + n, cp'⟩ (xs ++ ys) w' → K (a.put o.dst (.slice p' (m + n) cp')) w') : if Region.wanted o (yielded ops a.tmps) then o.wpIn F n' Tryz.prog a w K Q else E := by
  have hw : Region.wanted o (yielded ops a.tmps) = true := by simp [Region.wanted, hgd]
  rw [if_pos hw]
  obtain ⟨p', cp', w', hrun, h1, h2, h3⟩ := run_cat (c := c) o.type h hr hb hlen
  refine ⟨?_, ?_⟩
  · simp [Oper.about, ho, resolve, Target.leads, Sem.run_pure]
  · rw [Oper.semAt_plain F _ _ (by rw [ho]; intro c hc'; cases hc')]
    simp only [execOp, ho, resolve, invoke, builtin, Sem.run_bind, Sem.run_pure, Result.andThen_ok, List.map_toArray, List.map_cons, List.map_nil, hs, hx, hrun]
    exact hK p' cp' w' ⟨h1, h2, h3⟩

theorem wpOpIn_cat {F : Fence} {n' i : Nat} {w : World} {ops : Array Oper} {o : Oper} {a : Act} {K : Act → World → Prop} {Q : Exit → Act → World → Prop} (hi : ops[i]? = some o) (hgd : o.guard = none) (s x : Operand)
    (ho : o.op = .call { callee := .builtin .append, args := #[s, x], argTypes := #[22, 22] }) {base B m cp n c : Nat} {p A : Option Addr} {xs ys : List Int}
    (hs : a.eval s = .slice p m cp) (hx : a.eval x = .slice A n c) (h : w.ownsRow base 3 1 (.slice p m cp) m (xs.map (Value.int .i64))) (hr : Row w B A n ys) (hb : base ≤ w.heap.size) (hlen : m + n ≤ 4000000)
    (hK : ∀ p' cp' w', Catted w base (.slice p m cp) ⟨p', m + n, cp'⟩ (xs ++ ys) w' → K (a.put o.dst (.slice p' (m + n) cp')) w') : wpOpIn F n' Tryz.prog ops Q i K a w :=
  wpOpIn_of hi (stepIn_cat hgd s x ho hs hx h hr hb hlen hK)
theorem Res.same {base : Nat} {W w w' : World} {R : Nat → Option Thing} (h : Res base W w R) (hb : Below base w w') (hs : ∀ r t, R r = some t → ∀ b, t.blk b → w'.heap[b]? = w.heap[b]?) : Res base W w' R :=
  ⟨h.bel.trans hb, fun r t hr => ⟨t.stab w w' (h.ok r t hr).1 hb.size (hs r t hr), fun b hbk => ⟨((h.ok r t hr).2 b hbk).1, Nat.lt_of_lt_of_le ((h.ok r t hr).2 b hbk).2 hb.size⟩⟩, h.apart⟩

/-- Between two rounds: xs has been moved. -/
structure MvL (base : Nat) (W5 wl : World) (Z : Nat → Prop) (g : Nat → List Int) (k d2 : Nat) (xs : List Int) (M : Nat → Prop) (W : World) (V : Nat → Sl) (R : Nat → Option Thing) : Prop where
  hold : Hold Z wl W
  res : Res base W5 W R
  r1 : R 1 = some (tOwn base V (upd g k (g k ++ xs)))
  r3 : R 3 = some (tBox d2 V)
  off : ∀ r t, R r = some t → ∀ b, t.blk b → ¬ Z b ∧ ¬ M b
  fit : ∀ b, M b → b < W.heap.size
  zfit : ∀ b, Z b → b < wl.heap.size
  low : ∀ b, b < base → Z b
  big : base ≤ W.heap.size
section
variable {base k d2 : Nat} {W5 wl W W' : World} {Z M M' : Nat → Prop} {g : Nat → List Int} {xs : List Int} {V : Nat → Sl} {R : Nat → Option Thing}
theorem MvL.bides (h : MvL base W5 wl Z g k d2 xs M W V R) (hz : Hold Z W W') (hs : ∀ j, j < W.heap.size → ¬ M j → W'.heap[j]? = W.heap[j]?) (hm : ∀ j, M' j → M j ∨ (W.heap.size ≤ j ∧ j < W'.heap.size)) : MvL base W5 wl Z g k d2 xs M' W' V R := by
  refine ⟨h.hold.trans hz, h.res.same ⟨hz.os, hz.tape, hz.output, hz.size, fun b hb => hz.block b (h.low b hb) (Nat.lt_of_lt_of_le hb h.big)⟩ (fun r t hr b hb => hs b ((h.res.ok r t hr).2 b hb).2 (h.off r t hr b hb).2), h.r1, h.r3, fun r t hr b hb => ⟨(h.off r t hr b hb).1, fun hM => ?_⟩, fun b hb => ?_, h.zfit, h.low, Nat.le_trans h.big hz.size⟩
  · rcases hm b hM with hm | hm
    · exact (h.off r t hr b hb).2 hm
    · have := ((h.res.ok r t hr).2 b hb).2
      omega
  · rcases hm b hb with hm | hm
    · exact Nat.lt_of_lt_of_le (h.fit b hm) hz.size
    · exact hm.2
theorem MvL.own (h : MvL base W5 wl Z g k d2 xs M W V R) : Own3 W base V (upd g k (g k ++ xs)) := h.res.own h.r1
theorem MvL.box (h : MvL base W5 wl Z g k d2 xs M W V R) : Box3 W d2 V := h.res.box h.r3

/-- A round's end: one number more. -/
theorem MvL.moved (h : MvL base W5 wl Z g k d2 xs M W V R) (hk : k < 3) {s : Sl} {a : Int} {o : Obj} {w2 : World} (hc : Catted (W.drew.alloc o) base (.slice (V k).a (V k).n (V k).c) s (g k ++ xs ++ [a]) w2) :
    KeptZ Z M W (w2.setCell ⟨d2, k, none⟩ (.slice s.a s.n s.c)) ∧ ∃ V' R', MvL base W5 wl Z g k d2 (xs ++ [a]) M (w2.setCell ⟨d2, k, none⟩ (.slice s.a s.n s.c)) V' R' := by
  have hbig := h.big
  have RD : Res base W5 W.drew R := h.res.drewN 1
  have R1 := RD.catted (b0 := base) h.big h.r1 hk (s := s) (xs := g k ++ xs ++ [a]) hc hc.own
  have hsz : (W.drew.alloc o).heap.size = W.heap.size + 1 := by simp
  have hs2 : W.heap.size + 1 ≤ w2.heap.size := by have := hc.grown.size; omega
  have R2 := R1.set (by omega) (r := 3) (d := d2) (k := k) (z := V) (by rw [upd_other _ _ (by decide)]; exact h.r3) hk s
  have lies : ∀ q, (Value.slice (V k).a (V k).n (V k).c).ownBlock = some q → (tOwn base V (upd g k (g k ++ xs))).blk q := fun q hq => by
    rw [ownBlock_slice] at hq
    cases hx : (V k).a with
    | none => rw [hx] at hq; cases hq
    | some x =>
      rw [hx] at hq
      simp at hq
      exact ⟨k, x, hk, hx, hq⟩
  have keep : ∀ b, b < W.heap.size → (Z b ∨ M b) → (w2.setCell ⟨d2, k, none⟩ (.slice s.a s.n s.c)).heap[b]? = W.heap[b]? := fun b hb hzm => by
    have n1 : ¬ (tOwn base V (upd g k (g k ++ xs))).blk b := fun hbk => by
      have := h.off 1 _ h.r1 b hbk
      rcases hzm with hz | hz
      · exact this.1 hz
      · exact this.2 hz
    have n2 : ¬ b = d2 := fun e => by
      have := h.off 3 _ h.r3 b e
      rcases hzm with hz | hz
      · exact this.1 hz
      · exact this.2 hz
    refine (Below.heap_setCell _ _ _ _ n2).trans ((hc.grown.block b (by omega) (fun e => n1 (lies b e.symm))).trans (Below.heap_alloc _ _ _ hb))
  have hH : Hold Z W (w2.setCell ⟨d2, k, none⟩ (.slice s.a s.n s.c)) :=
    ⟨hc.grown.os, hc.grown.tape, hc.grown.output, by simp [World.setCell]; omega, fun b hz hb => keep b hb (.inl hz)⟩
  refine ⟨⟨hH, fun b hM hb => keep b hb (.inr hM)⟩, upd V k s, _, h.hold.trans hH, R2, ?_, upd_same _ _ _, ?_, fun b hM => ?_, h.zfit, h.low, by simp [World.setCell]; omega⟩
  · rw [upd_other _ _ (by decide), upd_same, upd_upd, List.append_assoc]
  · intro r t hr b hb
    have old : ∀ b, (tOwn base V (upd g k (g k ++ xs))).blk b ∨ W.heap.size ≤ b → ¬ Z b ∧ ¬ M b := fun b hb => by
      rcases hb with hb | hb
      · exact h.off 1 _ h.r1 b hb
      · refine ⟨fun hz => ?_, fun hM => ?_⟩
        · have := h.zfit b hz
          have := h.hold.size
          omega
        · have := h.fit b hM
          omega
    by_cases e3 : r = 3
    · subst e3
      rw [upd_same] at hr
      cases hr
      exact h.off 3 _ h.r3 b hb
    · rw [upd_other _ _ e3] at hr
      by_cases e1 : r = 1
      · subst e1
        rw [upd_same] at hr
        cases hr
        obtain ⟨j, x, hj, hx, rfl⟩ := hb
        by_cases ej : j = k
        · subst ej
          rw [upd_same] at hx
          rcases hc.lies x hx with e | e
          · exact old _ (.inl (lies _ e))
          · exact old _ (.inr (by omega))
        · rw [upd_other _ _ ej] at hx
          exact old _ (.inl ⟨j, x, hj, hx, rfl⟩)
      · rw [upd_other _ _ e1] at hr
        exact h.off r t hr b hb
  · have := h.fit b hM
    simp [World.setCell]
    omega
end

/-- In a round's region: what has been carried out. -/
structure MvRd (V0 : World) (base k d2 : Nat) (s0 : Sl) (ys : List Int) (a : Int) (l : Nat → Bool) (x48 x49 x50 x51 x52 x53 x54 x55 : Value) (w : World) (s : Sl) : Prop where
  s0_ : l 0 = true → x48 = .int .i64 k
  s1 : l 1 = true → x49 = .int .i64 k
  s2 : l 2 = true → x50 = .pointer (some ⟨d2, k, none⟩)
  s3 : l 3 = true → x51 = .slice s0.a s0.n s0.c
  s4 : l 4 = true → x52 = .int .i64 a
  s7 : l 7 = true → x55 = .pointer (some ⟨d2, k, none⟩)
  p0 : l 5 = false → w = V0.drew
  p1 : l 5 = true → l 6 = false → w = V0.drew.alloc (.cells #[.int .i64 a] 3) ∧ x53 = .slice (some ⟨V0.heap.size, 0, none⟩) 1 1
  p2 : l 6 = true → l 8 = false → Catted (V0.drew.alloc (.cells #[.int .i64 a] 3)) base (.slice s0.a s0.n s0.c) s ys w ∧ x54 = .slice s.a s.n s.c
  p3 : l 8 = true → ∃ w2, Catted (V0.drew.alloc (.cells #[.int .i64 a] 3)) base (.slice s0.a s0.n s0.c) s ys w2 ∧ w = w2.setCell ⟨d2, k, none⟩ (.slice s.a s.n s.c)
  o6 : l 6 = true → l 5 = true
  o8 : l 8 = true → ∀ j, j < 8 → l j = true
section
variable {V0 w w' : World} {base k d2 : Nat} {s0 s : Sl} {ys : List Int} {a : Int} {l : Nat → Bool} {x48 x49 x50 x51 x52 x53 x54 x55 : Value}
theorem MvRd.start (x48 x49 x50 x51 x52 x53 x54 x55 : Value) (s : Sl) : MvRd V0 base k d2 s0 ys a (fun _ => false) x48 x49 x50 x51 x52 x53 x54 x55 V0.drew s :=
  ⟨(fun h => by cases h), (fun h => by cases h), (fun h => by cases h), (fun h => by cases h), (fun h => by cases h), (fun h => by cases h), fun _ => rfl, (fun h => by cases h), (fun h => by cases h), (fun h => by cases h), (fun h => by cases h), (fun h => by cases h)⟩
/-- Old blocks are as they were, but for the one that is appended to. -/
theorem MvRd.old (h : MvRd V0 base k d2 s0 ys a l x48 x49 x50 x51 x52 x53 x54 x55 w s) (h8 : l 8 = false) {b : Nat} (hb : b < V0.heap.size) (hne : ∀ x, s0.a = some x → ¬ b = x.block) : w.heap[b]? = V0.heap[b]? ∧ V0.heap.size ≤ w.heap.size := by
  cases h5 : l 5
  · rw [h.p0 h5]
    exact ⟨rfl, Nat.le_refl _⟩
  · cases h6 : l 6
    · rw [(h.p1 h5 h6).1]
      exact ⟨Below.heap_alloc _ _ _ hb, by simp⟩
    · have hc := (h.p2 h6 h8).1
      have hsz : (V0.drew.alloc (.cells #[.int .i64 a] 3)).heap.size = V0.heap.size + 1 := by simp
      refine ⟨(hc.grown.block b (by omega) (fun e => ?_)).trans (Below.heap_alloc _ _ _ hb), by have := hc.grown.size; omega⟩
      rw [ownBlock_slice] at e
      cases hx : s0.a with
      | none => rw [hx] at e; cases e
      | some x =>
        rw [hx] at e
        simp at e
        exact hne x hx e
theorem MvRd.no8 (h : MvRd V0 base k d2 s0 ys a l x48 x49 x50 x51 x52 x53 x54 x55 w s) {i : Nat} (hi : i < 8) (hl : l i = false) : l 8 = false := by
  cases e : l 8
  · rfl
  · rw [h.o8 e i hi] at hl; cases hl
theorem MvRd.no6 (h : MvRd V0 base k d2 s0 ys a l x48 x49 x50 x51 x52 x53 x54 x55 w s) (hl : l 5 = false) : l 6 = false := by
  cases e : l 6
  · rfl
  · rw [h.o6 e] at hl; cases hl
theorem o8_upd {i : Nat} (h : l 8 = true → ∀ j, j < 8 → l j = true) (hi : ¬ i = 8) : upd l i true 8 = true → ∀ j, j < 8 → upd l i true j = true := fun h8 j hj => by
  rw [upd_other _ _ (fun e => hi e.symm)] at h8
  by_cases e : j = i
  · rw [e, upd_same]
  · rw [upd_other _ _ e]; exact h h8 j hj
theorem MvRd.did0 (h : MvRd V0 base k d2 s0 ys a l x48 x49 x50 x51 x52 x53 x54 x55 w s) : MvRd V0 base k d2 s0 ys a (upd l 0 true) (.int .i64 k) x49 x50 x51 x52 x53 x54 x55 w s :=
  ⟨fun _ => rfl, h.s1, h.s2, h.s3, h.s4, h.s7, h.p0, h.p1, h.p2, h.p3, h.o6, o8_upd h.o8 (by decide)⟩
theorem MvRd.did1 (h : MvRd V0 base k d2 s0 ys a l x48 x49 x50 x51 x52 x53 x54 x55 w s) : MvRd V0 base k d2 s0 ys a (upd l 1 true) x48 (.int .i64 k) x50 x51 x52 x53 x54 x55 w s :=
  ⟨h.s0_, fun _ => rfl, h.s2, h.s3, h.s4, h.s7, h.p0, h.p1, h.p2, h.p3, h.o6, o8_upd h.o8 (by decide)⟩
theorem MvRd.did2 (h : MvRd V0 base k d2 s0 ys a l x48 x49 x50 x51 x52 x53 x54 x55 w s) : MvRd V0 base k d2 s0 ys a (upd l 2 true) x48 x49 (.pointer (some ⟨d2, k, none⟩)) x51 x52 x53 x54 x55 w s :=
  ⟨h.s0_, h.s1, fun _ => rfl, h.s3, h.s4, h.s7, h.p0, h.p1, h.p2, h.p3, h.o6, o8_upd h.o8 (by decide)⟩
theorem MvRd.did3 (h : MvRd V0 base k d2 s0 ys a l x48 x49 x50 x51 x52 x53 x54 x55 w s) : MvRd V0 base k d2 s0 ys a (upd l 3 true) x48 x49 x50 (.slice s0.a s0.n s0.c) x52 x53 x54 x55 w s :=
  ⟨h.s0_, h.s1, h.s2, fun _ => rfl, h.s4, h.s7, h.p0, h.p1, h.p2, h.p3, h.o6, o8_upd h.o8 (by decide)⟩
theorem MvRd.did4 (h : MvRd V0 base k d2 s0 ys a l x48 x49 x50 x51 x52 x53 x54 x55 w s) : MvRd V0 base k d2 s0 ys a (upd l 4 true) x48 x49 x50 x51 (.int .i64 a) x53 x54 x55 w s :=
  ⟨h.s0_, h.s1, h.s2, h.s3, fun _ => rfl, h.s7, h.p0, h.p1, h.p2, h.p3, h.o6, o8_upd h.o8 (by decide)⟩
theorem MvRd.did7 (h : MvRd V0 base k d2 s0 ys a l x48 x49 x50 x51 x52 x53 x54 x55 w s) : MvRd V0 base k d2 s0 ys a (upd l 7 true) x48 x49 x50 x51 x52 x53 x54 (.pointer (some ⟨d2, k, none⟩)) w s :=
  ⟨h.s0_, h.s1, h.s2, h.s3, h.s4, fun _ => rfl, h.p0, h.p1, h.p2, h.p3, h.o6, o8_upd h.o8 (by decide)⟩
theorem MvRd.did5 (h : MvRd V0 base k d2 s0 ys a l x48 x49 x50 x51 x52 x53 x54 x55 w s) (hl : l 5 = false) :
    MvRd V0 base k d2 s0 ys a (upd l 5 true) x48 x49 x50 x51 x52 (.slice (some ⟨V0.heap.size, 0, none⟩) 1 1) x54 x55 (V0.drew.alloc (.cells #[.int .i64 a] 3)) s := by
  have h6 := h.no6 hl
  exact ⟨h.s0_, h.s1, h.s2, h.s3, h.s4, h.s7, (fun e => by cases e), fun _ _ => ⟨rfl, rfl⟩, (fun e => by rw [show upd l 5 true 6 = l 6 from rfl, h6] at e; cases e), fun e => (by rw [show upd l 5 true 8 = l 8 from rfl] at e; have := h.o8 e 5 (by decide); rw [hl] at this; cases this), fun _ => rfl, o8_upd h.o8 (by decide)⟩
theorem MvRd.did6 (h : MvRd V0 base k d2 s0 ys a l x48 x49 x50 x51 x52 x53 x54 x55 w s) (h5 : l 5 = true) (h8 : l 8 = false) {s' : Sl} (hc : Catted (V0.drew.alloc (.cells #[.int .i64 a] 3)) base (.slice s0.a s0.n s0.c) s' ys w') :
    MvRd V0 base k d2 s0 ys a (upd l 6 true) x48 x49 x50 x51 x52 x53 (.slice s'.a s'.n s'.c) x55 w' s' :=
  ⟨h.s0_, h.s1, h.s2, h.s3, h.s4, h.s7, (fun e => by rw [show upd l 6 true 5 = l 5 from rfl, h5] at e; cases e), (fun _ e => by cases e), fun _ _ => ⟨hc, rfl⟩, (fun e => by rw [show upd l 6 true 8 = l 8 from rfl, h8] at e; cases e), fun _ => h5, o8_upd h.o8 (by decide)⟩
theorem MvRd.did8 (h : MvRd V0 base k d2 s0 ys a l x48 x49 x50 x51 x52 x53 x54 x55 w s) (hall : ∀ j, j < 8 → l j = true) (h8 : l 8 = false) :
    MvRd V0 base k d2 s0 ys a (upd l 8 true) x48 x49 x50 x51 x52 x53 x54 x55 (w.setCell ⟨d2, k, none⟩ (.slice s.a s.n s.c)) s :=
  ⟨h.s0_, h.s1, h.s2, h.s3, h.s4, h.s7, (fun e => by rw [show upd l 8 true 5 = l 5 from rfl, hall 5 (by decide)] at e; cases e), (fun _ e => by rw [show upd l 8 true 6 = l 6 from rfl, hall 6 (by decide)] at e; cases e), (fun _ e => by cases e), fun _ => ⟨w, (h.p2 (hall 6 (by decide)) h8).1, rfl⟩, h.o6, fun _ j hj => by rw [upd_other _ _ (by omega)]; exact hall j hj⟩
end
/-- The blocks that Move's loop keeps: what was there, the list that is gone through, its box, the iterator's. -/
def MvZ (base : Nat) (U : Nat → Sl) (d1 c0 b : Nat) : Prop := b < base ∨ (tOwn base U noLists).blk b ∨ b = d1 ∨ b = c0
def MvI (base : Nat) (W5 wl : World) (Z : Nat → Prop) (g : Nat → List Int) (k d2 : Nat) (xs : List Int) (M : Nat → Prop) (pre : List Nat) (W : World) : Prop := ∃ V R, MvL base W5 wl Z g k d2 (pre.map fun i => xs[i]?.getD 0) M W V R
theorem MvI.bides (base : Nat) (W5 wl : World) (Z : Nat → Prop) (g : Nat → List Int) (k d2 : Nat) (xs : List Int) : BidesZ Z (MvI base W5 wl Z g k d2 xs) :=
  fun _ _ _ _ _ ⟨V, R, h⟩ hz hs hm => ⟨V, R, h.bides hz hs hm⟩
theorem MvI.start {base k d1 d2 c0 : Nat} {W5 wl : World} {U V : Nat → Sl} {f g : Nat → List Int} {R : Nat → Option Thing} (h : Res base W5 wl R) (r0 : R 0 = some (tOwn base U f)) (r1 : R 1 = some (tOwn base V g)) (r2 : R 2 = some (tBox d1 U)) (r3 : R 3 = some (tBox d2 V))
    (hc : ∀ r t, R r = some t → ∀ b, t.blk b → b < c0) (hl : c0 < wl.heap.size) (hb : base ≤ wl.heap.size) (xs : List Int) : MvI base W5 wl (MvZ base U d1 c0) g k d2 xs (fun _ => False) [] wl := by
  refine ⟨V, fun r => if r = 1 ∨ r = 3 then R r else none, Hold.refl _ _, ⟨h.bel, fun r t hr => ?_, fun r s t t' hr hs hne => ?_⟩, ?_, ?_, fun r t hr b hbk => ⟨?_, fun h => h⟩, fun _ h => h.elim, fun b hz => ?_, fun b hz => .inl hz, hb⟩
  · split at hr
    · exact h.ok r t hr
    · cases hr
  · split at hr
    · split at hs
      · exact h.apart r s t t' hr hs hne
      · cases hs
    · cases hr
  · have e : upd g k (g k ++ ([] : List Nat).map fun i => xs[i]?.getD 0) = g := by
      funext j
      by_cases e : j = k
      · rw [e, upd_same]; simp
      · rw [upd_other _ _ e]
    simp only [true_or, if_true]
    rw [e]
    exact r1
  · simp only [or_true, if_true]
    exact r3
  · split at hr
    · rename_i hor
      have n0 : ¬ r = 0 := by omega
      have n2 : ¬ r = 2 := by omega
      rintro (hz | hz | hz | hz)
      · have := ((h.ok r t hr).2 b hbk).1
        omega
      · exact h.apart r 0 t _ hr r0 n0 b hbk hz
      · exact h.apart r 2 t _ hr r2 n2 b hbk hz
      · have := hc r t hr b hbk
        omega
    · cases hr
  · rcases hz with hz | hz | hz | hz
    · omega
    · exact ((h.ok 0 _ r0).2 b hz).2
    · exact ((h.ok 2 _ r2).2 b hz).2
    · omega

theorem down_map (xs : List Int) : (downL xs.length).map (fun i => xs[i]?.getD 0) = xs.reverse := by
  unfold downL
  rw [List.map_reverse]
  congr 1
  apply List.ext_getElem (by simp)
  intro i h1 h2
  simp [List.getElem?_eq_getElem h2]

/-- The tail of a slice, from a place on. -/
theorem tail_some {w : World} {base k st : Nat} {U : Nat → Sl} {f : Nat → List Int} (ho : Own3 w base U f) (hk : k < 3) (hs : st ≤ (U k).n) :
    Row w w.heap.size (Option.map (fun x => x.add st) (U k).a) ((U k).n - st) ((f k).drop st) ∧ ∀ x, Option.map (fun x => x.add st) (U k).a = some x → (tOwn base U f).blk x.block := by
  have hr := (ho.l3 k hk).1
  refine ⟨⟨by have := hr.1; simp; omega, fun hn => ?_⟩, fun x hx => ?_⟩
  · obtain ⟨b, off, e, hlt, hc⟩ := hr.2 (by omega)
    refine ⟨b, off + st, by rw [e]; simp [Addr.add], hlt, fun i hi => ?_⟩
    have := hc (st + i) (by omega)
    rw [← Nat.add_assoc] at this
    rw [this]
    simp [List.getD]
  · cases hy : (U k).a with
    | none => rw [hy] at hx; cases hx
    | some y =>
      rw [hy] at hx
      simp only [Option.map_some, Option.some.injEq] at hx
      refine ⟨k, y, hk, hy, ?_⟩
      rw [← hx]
      unfold Addr.add
      split <;> rfl
theorem tail_none {w : World} {base k st : Nat} {U : Nat → Sl} {f : Nat → List Int} (ho : Own3 w base U f) (hk : k < 3) (hc : (U k).c = st) (hs : st ≤ (U k).n) :
    Row w w.heap.size (U k).a ((U k).n - st) ((f k).drop st) ∧ ∀ x, (U k).a = some x → (tOwn base U f).blk x.block := by
  have hr := ho.l3 k hk
  refine ⟨⟨by have := hr.1.1; simp; omega, fun hn => by have := hr.2.1; omega⟩, fun x hx => ⟨k, x, hk, hx, rfl⟩⟩

def MoveOut (w : World) (F G : Nat → List Int) (er : Int) (e : Ending) (w' : World) : Prop := ∃ u v, e = .returned (.tuple #[(.agg #[.slice (u 0).a (u 0).n (u 0).c, .slice (u 1).a (u 1).n (u 1).c, .slice (u 2).a (u 2).n (u 2).c]), (.agg #[.slice (v 0).a (v 0).n (v 0).c, .slice (v 1).a (v 1).n (v 1).c, .slice (v 2).a (v 2).n (v 2).c]), .int .i64 er]) ∧ L3 w' w'.heap.size u F ∧ L3 w' w'.heap.size v G ∧ Below w.heap.size w w'
theorem cut_box {W W3 : World} {d k st q : Nat} {U : Nat → Sl} (h : Box3 W d U) (hk : k < 3) (e : W3 = (W.setCell ⟨d, k, none⟩ (.slice (U k).a st (U k).c)).drewN q) : Box3 W3 d (upd U k ⟨(U k).a, st, (U k).c⟩) := by
  rw [e]
  have := h.set hk ⟨(U k).a, st, (U k).c⟩
  exact this.drewN q
theorem cut_other {W W3 : World} {d k st q : Nat} {U : Nat → Sl} (e : W3 = (W.setCell ⟨d, k, none⟩ (.slice (U k).a st (U k).c)).drewN q) : W3.heap.size = W.heap.size ∧ ∀ b, ¬ b = d → W3.heap[b]? = W.heap[b]? := by
  rw [e]
  exact ⟨by simp [World.setCell], fun b hb => Below.heap_setCell _ _ _ _ hb⟩
theorem cut_same {W W3 : World} {d k st q : Nat} {U : Nat → Sl} (e : W3 = (W.setCell ⟨d, k, none⟩ (.slice (U k).a st (U k).c)).drewN q) : W3.os = W.os ∧ W3.tape = W.tape ∧ W3.output = W.output := by
  rw [e]
  exact ⟨rfl, rfl, rfl⟩
/-- What Move leaves: behind the cut of the list that was gone through, and behind the stores of both results. -/
structure MvEnd (w W5 W : World) (D d1 d2 : Nat) (U2 V : Nat → Sl) (F G : Nat → List Int) (W3 : World) : Prop where
  e1 : Box3 W3 d1 U2
  e2 : Box3 W3 d2 V
  e8 : Box3 W3 (w.heap.size + 1 + 1 + 1) noSl
  e9 : Box3 W3 (w.heap.size + 1 + 1 + 1 + 1) noSl
  def_ : W3.heap[D]? = some (.deferred (some []))
  far : w.heap.size + 5 ≤ D
  fin : ∀ W' : World, W'.os = W3.os → W'.tape = W3.tape → W'.output = W3.output → W'.heap.size = W3.heap.size → (∀ b, ¬ b = D → ¬ b = w.heap.size + 1 + 1 + 1 → ¬ b = w.heap.size + 1 + 1 + 1 + 1 → W'.heap[b]? = W3.heap[b]?) →
    L3 W' W'.heap.size U2 F ∧ L3 W' W'.heap.size V G ∧ Below w.heap.size w W'
theorem move_end {k d1 d2 D q3 st : Nat} {w W5 wl W W3 : World} {Z M : Nat → Prop} {U V : Nat → Sl} {f g : Nat → List Int} {xs : List Int} {R : Nat → Option Thing}
    (hL : MvL W5.heap.size W5 wl Z g k d2 xs M W V R) (hk : k < 3) (hU : Own3 W W5.heap.size U f) (hb1 : Box3 W d1 U) (hz1 : Z d1) (h1 : W5.heap.size ≤ d1) (hzU : ∀ j x, j < 3 → (U j).a = some x → Z x.block ∧ ¬ x.block = d1) (hst : st ≤ (U k).n)
    (h5 : W5.heap.size = w.heap.size + 5) (hw : Below w.heap.size w W5) (h8 : Box3 W5 (w.heap.size + 1 + 1 + 1) noSl) (h9 : Box3 W5 (w.heap.size + 1 + 1 + 1 + 1) noSl) (hdef : W.heap[D]? = some (.deferred (some []))) (hDM : M D) (hDZ : ¬ Z D)
    (e3 : W3 = (W.setCell ⟨d1, k, none⟩ (.slice (U k).a st (U k).c)).drewN q3) :
    MvEnd w W5 W D d1 d2 (upd U k ⟨(U k).a, st, (U k).c⟩) V (upd f k ((f k).take st)) (upd g k (g k ++ xs)) W3 := by
  have hb2 := hL.box
  have hV := hL.own
  have hDs : W5.heap.size ≤ D := Nat.le_of_not_lt fun h => hDZ (hL.low D h)
  have bel := hL.res.bel
  have b8 : Box3 W (w.heap.size + 1 + 1 + 1) noSl := h8.below bel (by omega)
  have b9 : Box3 W (w.heap.size + 1 + 1 + 1 + 1) noSl := h9.below bel (by omega)
  have n2 : ¬ d2 = d1 := fun e => (hL.off 3 _ hL.r3 d2 rfl).1 (e ▸ hz1)
  have n2s : W5.heap.size ≤ d2 := ((hL.res.ok 3 _ hL.r3).2 d2 rfl).1
  have nV : ∀ j x, j < 3 → (V j).a = some x → ¬ x.block = d1 ∧ ¬ x.block = D := fun j x hj hx =>
    ⟨fun e => (hL.off 1 _ hL.r1 x.block ⟨j, x, hj, hx, rfl⟩).1 (e ▸ hz1), fun e => (hL.off 1 _ hL.r1 x.block ⟨j, x, hj, hx, rfl⟩).2 (e ▸ hDM)⟩
  have nD1 : ¬ D = d1 := fun e => hDZ (e ▸ hz1)
  obtain ⟨s3, k3⟩ := cut_other e3
  obtain ⟨o1, o2, o3⟩ := cut_same e3
  refine ⟨cut_box hb1 hk e3, hb2.same (k3 _ n2) (by omega), b8.same (k3 _ (by omega)) (by omega), b9.same (k3 _ (by omega)) (by omega), (k3 D nD1).trans hdef, by omega, fun W' g1 g2 g3 g4 g5 => ?_⟩
  have k5 : ∀ b, ¬ b = D → ¬ b = d1 → ¬ b = w.heap.size + 1 + 1 + 1 → ¬ b = w.heap.size + 1 + 1 + 1 + 1 → W'.heap[b]? = W.heap[b]? := fun b e1 e2 e3 e4 => (g5 b e1 e3 e4).trans (k3 b e2)
  have U' : Own3 W' W5.heap.size U f := hU.same (fun j x hj hx => k5 _ (fun e => hDZ (e ▸ (hzU j x hj hx).1)) (hzU j x hj hx).2 (by have := (hU.block j hj hx).1; omega) (by have := (hU.block j hj hx).1; omega))
  have V' : Own3 W' W5.heap.size V (upd g k (g k ++ xs)) := hV.same (fun j x hj hx => k5 _ (nV j x hj hx).2 (nV j x hj hx).1 (by have := (hV.block j hj hx).1; omega) (by have := (hV.block j hj hx).1; omega))
  refine ⟨U'.l3.cut hk hst, V'.l3, ?_⟩
  refine ⟨g1.trans (o1.trans (bel.os.trans hw.os)), g2.trans (o2.trans (bel.tape.trans hw.tape)), g3.trans (o3.trans (bel.output.trans hw.output)), ?_, fun b hb => ?_⟩
  · have h6 := bel.size
    omega
  · exact (k5 b (by omega) (by omega) (by omega) (by omega)).trans ((bel.block b (by omega)).trans (hw.block b hb))
theorem drewN_heap (w : World) (q : Nat) : (w.drewN q).heap = w.heap := rfl
theorem drewN_os (w : World) (q : Nat) : (w.drewN q).os = w.os ∧ (w.drewN q).tape = w.tape ∧ (w.drewN q).output = w.output := ⟨rfl, rfl, rfl⟩
theorem put3_os (w : World) (b : Nat) (v : Nat → Sl) : (put3 w b v).os = w.os ∧ (put3 w b v).tape = w.tape ∧ (put3 w b v).output = w.output := ⟨rfl, rfl, rfl⟩
/-- .. and at the return. -/
theorem MvEnd.done {w W5 W W3 W4 W' : World} {D d1 d2 q : Nat} {U2 V : Nat → Sl} {F G : Nat → List Int} (h : MvEnd w W5 W D d1 d2 U2 V F G W3) (e : W4 = (put3 (put3 W3 (w.heap.size + 1 + 1 + 1) U2) (w.heap.size + 1 + 1 + 1 + 1) V).drewN q)
    (g1 : W'.os = W4.os) (g2 : W'.tape = W4.tape) (g3 : W'.output = W4.output) (g4 : W'.heap.size = W4.heap.size) (g5 : ∀ b, ¬ b = D → W'.heap[b]? = W4.heap[b]?) :
    (L3 W' W'.heap.size U2 F ∧ L3 W' W'.heap.size V G ∧ Below w.heap.size w W') ∧ Box3 W' (w.heap.size + 1 + 1 + 1) U2 ∧ Box3 W' (w.heap.size + 1 + 1 + 1 + 1) V := by
  have hfar := h.far
  have s4 : W4.heap.size = W3.heap.size := by
    rw [e, drewN_heap, put3_size, put3_size]
  have k4 : ∀ b, ¬ b = w.heap.size + 1 + 1 + 1 → ¬ b = w.heap.size + 1 + 1 + 1 + 1 → W4.heap[b]? = W3.heap[b]? := fun b e1 e2 => by
    rw [e, drewN_heap]
    exact (put3_other _ _ e2).trans (put3_other _ _ e1)
  have e8 : Box3 W4 (w.heap.size + 1 + 1 + 1) U2 := by
    rw [e]
    exact ((h.e8.put U2).putOther (by omega) V).drewN q
  have e9 : Box3 W4 (w.heap.size + 1 + 1 + 1 + 1) V := by
    rw [e]
    exact ((h.e9.putOther (by omega) U2).put V).drewN q
  have o4 : W4.os = W3.os ∧ W4.tape = W3.tape ∧ W4.output = W3.output := by
    rw [e, (drewN_os _ _).1, (drewN_os _ _).2.1, (drewN_os _ _).2.2, (put3_os _ _ _).1, (put3_os _ _ _).2.1, (put3_os _ _ _).2.2, (put3_os _ _ _).1, (put3_os _ _ _).2.1, (put3_os _ _ _).2.2]
    exact ⟨rfl, rfl, rfl⟩
  exact ⟨h.fin W' (g1.trans o4.1) (g2.trans o4.2.1) (g3.trans o4.2.2) (by omega) (fun b b1 b2 b3 => (g5 b b1).trans (k4 b b2 b3)), e8.same (g5 _ (by omega)) (by omega), e9.same (g5 _ (by omega)) (by omega)⟩
theorem MvEnd.def4 {w W5 W W3 W4 : World} {D d1 d2 q : Nat} {U2 V : Nat → Sl} {F G : Nat → List Int} (h : MvEnd w W5 W D d1 d2 U2 V F G W3) (e : W4 = (put3 (put3 W3 (w.heap.size + 1 + 1 + 1) U2) (w.heap.size + 1 + 1 + 1 + 1) V).drewN q) : W4.heap[D]? = some (.deferred (some [])) := by
  have hfar := h.far
  rw [e, drewN_heap]
  exact ((put3_other _ _ (by omega)).trans (put3_other _ _ (by omega))).trans h.def_

def Put8 (a : Act) (x48 x49 x50 x51 x52 x53 x54 x55 : Value) : Act := (((((((a.put (some 48) x48).put (some 49) x49).put (some 50) x50).put (some 51) x51).put (some 52) x52).put (some 53) x53).put (some 54) x54).put (some 55) x55
def MvRI (V0 : World) (base k d2 : Nat) (s0 : Sl) (ys : List Int) (z : Int) (a0 : Act) (l : Nat → Bool) (a : Act) (w : World) : Prop :=
  ∃ x48 x49 x50 x51 x52 x53 x54 x55 s, a = Put8 a0 x48 x49 x50 x51 x52 x53 x54 x55 ∧ MvRd V0 base k d2 s0 ys z l x48 x49 x50 x51 x52 x53 x54 x55 w s
end Go.Proofs.YtdmclfolooiccaaGreatDoor.Ls
