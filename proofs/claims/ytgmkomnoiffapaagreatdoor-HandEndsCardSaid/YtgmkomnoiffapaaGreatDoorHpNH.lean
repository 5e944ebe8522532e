/-
  Merged texts: HaSt, HpInv, MuPlan, ShAct, HaPlan, RtArm.
-/
import Derived.Test.YtgmkomnoiffapaaGreatDoorHpNG
import Derived.Test.YtgmkomnoiffapaaGreatDoorNShShade
import Derived.Test.YtgmkomnoiffapaaGreatDoorHpNE
import Derived.Test.YtgmkomnoiffapaaGreatDoorNRtFresh
import Derived.Test.YtgmkomnoiffapaaGreatDoorHpNF
section
namespace Go.Proofs.YtgmkomnoiffapaaGreatDoor.Ha
open Go.Proofs.YtgmkomnoiffapaaGreatDoor Go.Proofs.YtgmkomnoiffapaaGreatDoor.Rt
open Go.RowKit
open Go.Proofs.YtgmkomnoiffapaaGreatDoor.Mu (hv kv OffH OffT)
set_option maxRecDepth 100000

structure OffQ (b : Nat) (n : Q3) : Prop where
  h : OffH b n.s
  k : Mu.Off b n.k.wk
  t : OffT b n.t
/-- All lies in new memory. -/
structure NewQ (B : Nat) (n : Q3) : Prop where
  h : News B n.s
  k : 0 < n.k.wk.n → ∀ x, n.k.wk.a = some x → B ≤ x.block
  u : ∀ j, j < 3 → 0 < (n.t.u j).n → ∀ x, (n.t.u j).a = some x → B ≤ x.block
  o : 0 < n.t.o.n → ∀ x, n.t.o.a = some x → B ≤ x.block
section
variable {w W W' : World} {B b i j : Nat} {n : Q3} {u : Ls.Sl} {s : Hs}
theorem off_ge (h : 0 < u.n → ∀ x, u.a = some x → B ≤ x.block) (hb : b < B) : Mu.Off b u := fun hn x hx => by have := h hn x hx; omega
theorem offh_new (h : News B s) (hb : b < B) : OffH b s := ⟨off_ge h.w hb, off_ge h.p hb, fun j hj => off_ge (h.u j hj) hb, off_ge h.c hb⟩
theorem NewQ.off (h : NewQ B n) (hb : b < B) : OffQ b n := ⟨offh_new h.h hb, off_ge h.k hb, ⟨fun j hj => off_ge (h.u j hj) hb, off_ge h.o hb⟩⟩
theorem NewQ.less (h : NewQ B n) (hb : b ≤ B) : NewQ b n := ⟨⟨fun hn x hx => Nat.le_trans hb (h.h.w hn x hx), fun hn x hx => Nat.le_trans hb (h.h.p hn x hx), fun j hj hn x hx => Nat.le_trans hb (h.h.u j hj hn x hx), fun hn x hx => Nat.le_trans hb (h.h.c hn x hx)⟩, fun hn x hx => Nat.le_trans hb (h.k hn x hx), fun j hj hn x hx => Nat.le_trans hb (h.u j hj hn x hx), fun hn x hx => Nat.le_trans hb (h.o hn x hx)⟩
theorem off_old (h : Hold w n) (hb : w.heap.size ≤ b) : OffQ b n := by
  have lt : ∀ {u : Ls.Sl}, (0 < u.n → ∀ x, u.a = some x → x.block < w.heap.size) → Mu.Off b u := fun h hn x hx => by have := h hn x hx; omega
  have h1 := Mu.offh_old h.h
  exact ⟨⟨lt (Mu.row_lies h.h.words), lt (Mu.prow_lies h.h.pages), fun j hj => lt (Mu.row_lies (h.h.free j hj).1), lt (Mu.brow_lies h.h.cards)⟩, lt (Mu.row_lies h.c), ⟨fun j hj => lt (Mu.row_lies (h.t.c j hj).1), lt (Mu.orow_lies h.t.o)⟩⟩
theorem hold_off (h : Hold w n) (ha : OffQ b n) (hs : ∀ k, ¬ k = b → W.heap[k]? = w.heap[k]?) (hz : W.heap.size = w.heap.size) : Hold W n :=
  ⟨by rw [hz]; exact Mu.hp_off h.h ha.h hs, by rw [hz]; exact Mu.row_keep h.c (fun hn x hx => hs x.block (ha.k hn x hx)), by rw [hz]; exact Mu.th_off h.t ha.t hs⟩
end
def p6 (a b c d e f : Nat) : Nat → Nat
  | 0 => a
  | 1 => b
  | 2 => c
  | 3 => d
  | 4 => e
  | _ => f
def c6 (a b c d e f : List Value) : Nat → List Value
  | 0 => a
  | 1 => b
  | 2 => c
  | 3 => d
  | 4 => e
  | _ => f
structure W6 (w W : World) (p : Nat → Nat) (c : Nat → List Value) (ps : List Q3) : Prop where
  bel : Below w.heap.size w W
  lo : ∀ i, i < 6 → w.heap.size ≤ p i
  inj : ∀ i j, i < 6 → j < 6 → ¬ i = j → ¬ p i = p j
  box : ∀ i, i < 6 → Box W (p i) (c i)
  hold : ∀ n ∈ ps, Hold W n ∧ ∀ i, i < 6 → OffQ (p i) n
section
variable {w W W' : World} {p : Nat → Nat} {c c' : Nat → List Value} {ps : List Q3} {i j : Nat} {n : Q3} {vs : List Value} {v : Value}
theorem W6.next (h : W6 w W p c ps) (hb : Below W.heap.size W W') : W6 w W' p c ps := ⟨h.bel.trans (hb.mono h.bel.size), h.lo, h.inj, fun i hi => (h.box i hi).next hb, fun n hn => ⟨(h.hold n hn).1.next hb, (h.hold n hn).2⟩⟩
theorem W6.at (h : W6 w W p c ps) (n : Q3) (hm : n ∈ ps) : Hold W n := (h.hold n hm).1
theorem W6.over (h : W6 w W p c ps) (hz : Cl.Sz w) : Cl.Sz W := hz.over h.bel hz.pos
theorem W6.held (h : W6 w W p c ps) (hn : Hold W n) (ho : ∀ i, i < 6 → OffQ (p i) n) : W6 w W p c (n :: ps) := ⟨h.bel, h.lo, h.inj, h.box, fun x hx => by
  rcases List.mem_cons.1 hx with rfl | hx
  · exact ⟨hn, ho⟩
  · exact h.hold x hx⟩
theorem W6.lt (h : W6 w W p c ps) (hi : i < 6) : p i < W.heap.size := (h.box i hi).lt
theorem W6.only (h : W6 w W p c (n :: ps)) : W6 w W p c [n] := ⟨h.bel, h.lo, h.inj, h.box, fun x hx => by
  rcases List.mem_singleton.1 hx with rfl
  exact h.hold _ (List.mem_cons.2 (.inl rfl))⟩
/-- One of the boxes is turned. -/
theorem W6.turn (h : W6 w W p c ps) (hi : i < 6) (hB : Box W' (p i) vs) (hbel : Below w.heap.size w W') (hs : ∀ k, ¬ k = p i → W'.heap[k]? = W.heap[k]?) (hz : W'.heap.size = W.heap.size) (hc : ∀ k, k < 6 → c' k = if k = i then vs else c k) : W6 w W' p c' ps := by
  refine ⟨hbel, h.lo, h.inj, fun k hk => ?_, fun n hn => ⟨hold_off (h.hold n hn).1 ((h.hold n hn).2 i hi) hs hz, (h.hold n hn).2⟩⟩
  rw [hc k hk]
  split
  · next e => subst e; exact hB
  · next e => exact (h.box k hk).same (hs _ (h.inj k i hk hi e)) (Nat.le_of_eq hz.symm)
theorem W6.puts (h : W6 w W p c ps) (i : Nat) (hi : i < 6) (vs : List Value) (hl : (c i).length = vs.length) (hc : ∀ k, k < 6 → c' k = if k = i then vs else c k) : W6 w (puts (p i) 0 vs W) p c' ps :=
  h.turn hi (Mu.box_all (h.box i hi) hl) (below_puts _ (h.lo i hi) _ _ _ h.bel) (fun _ hk => puts_other _ _ _ _ hk) (puts_size _ _ _ _) hc
theorem W6.cell (h : W6 w W p c ps) (i : Nat) (hi : i < 6) (j : Nat) (v : Value) (hv : (c i).set j v = vs) (hc : ∀ k, k < 6 → c' k = if k = i then vs else c k) : W6 w (W.setCell ⟨p i, j, none⟩ v) p c' ps := by
  have hb := (h.box i hi).set j v
  rw [hv] at hb
  exact h.turn hi hb (h.bel.setCell (p := ⟨p i, j, none⟩) (h.lo i hi) _) (fun _ hk => Below.heap_setCell _ _ _ _ hk) (by simp [World.setCell]) hc
theorem all6 {P : Nat → Prop} (h : P 0 ∧ P 1 ∧ P 2 ∧ P 3 ∧ P 4 ∧ P 5) : ∀ k, k < 6 → P k := fun k hk => by
  obtain ⟨h0, h1, h2, h3, h4, h5⟩ := h
  match k, hk with
  | 0, _ => exact h0
  | 1, _ => exact h1
  | 2, _ => exact h2
  | 3, _ => exact h3
  | 4, _ => exact h4
  | 5, _ => exact h5
/-- Boxes laid one behind the other. -/
theorem inj6 {b : Nat} : ∀ i j, i < 6 → j < 6 → ¬ i = j → ¬ p6 b (b + 1) (b + 2) (b + 3) (b + 4) (b + 5) i = p6 b (b + 1) (b + 2) (b + 3) (b + 4) (b + 5) j := by
  have e : ∀ i, i < 6 → p6 b (b + 1) (b + 2) (b + 3) (b + 4) (b + 5) i = b + i := all6 ⟨rfl, rfl, rfl, rfl, rfl, rfl⟩
  intro i j hi hj hne
  rw [e i hi, e j hj]
  omega
end
/-- The states of P's answer: where it lies is not told. -/
structure Sim (s : Hs) (k : Sh.Ks) (P : A5) (n : Q3) : Prop where
  len : Lens s n.s
  d : n.d = P.d
  xs : n.xs = P.xs
  k : n.k = Sh.kw k n.k.wk P.ov
  t : n.t = tw P.t n.t.u n.t.o
  o : n.t.o.n = P.t.o.n
def own (n : Q3) : A5 := ⟨n.d, n.xs, n.k.ov, n.t⟩
section
variable {s : Hs} {k : Sh.Ks} {P : A5} {n n' : Q3}
theorem sim_own (n : Q3) : Sim n.s n.k (own n) n := ⟨⟨rfl, rfl, fun _ _ => rfl, rfl⟩, rfl, rfl, rfl, rfl, rfl⟩
theorem Sim.may (h : Sim s k P n) : mayT n.t = mayT P.t := by
  have e := h.t
  have o := h.o
  unfold mayT
  rw [o, e]
  rfl
theorem Sim.ans (h : Sim s k P n) : ansB n.k.ph n.k.ep n.t = ansB k.ph k.ep P.t := by
  rw [h.k, h.t]
  rfl
theorem Sim.ask (h : Sim s k P n) : askB n.k.ph n.k.ep n.t = askB k.ph k.ep P.t := by
  unfold askB
  rw [h.ans, h.may, h.t]
  rfl
theorem Sim.isC (h : Sim s k P n) (a q : Int) : Sh.isC n.s n.d n.k.mj n.k.ep a q = Sh.isC s P.d k.mj k.ep a q := by
  rw [Sh.same_col h.len, h.d, h.k]
  rfl
theorem Sim.sh (h : Sim s k P n) (a : Int) : Sh.shD n.s n.d n.k.mj n.k.ep a = Sh.shD s P.d k.mj k.ep a := by
  have e := h.isC a 1
  unfold Sh.shD
  rw [e, h.d, h.k]
  rfl
theorem Sim.get (h : Sim s k P n) : getV n.t n.t.rt = getV P.t P.t.rt := by rw [h.t]; rfl
theorem Sim.ov (h : Sim s k P n) : n.k.ov = P.ov := by rw [h.k]; rfl
theorem Sim.tt (h : Sim s k P n) (a b c : Int) : te n.t a b c = tw (te P.t a b c) n.t.u n.t.o := by
  have e := h.t
  conv => lhs; rw [e]
  rfl
theorem Sim.root (h : Sim s k P n) : rootT n.t = tw (rootT P.t) n.t.u n.t.o := by
  have e := h.tt
  have hr : n.t.rt = P.t.rt ∧ n.t.ep = P.t.ep ∧ n.t.sg = P.t.sg := by rw [h.t]; exact ⟨rfl, rfl, rfl⟩
  unfold rootT
  rw [hr.1, hr.2.1, hr.2.2]
  split <;> exact e _ _ _
theorem root_o (t : Ts) : (rootT t).o = t.o ∧ (rootT t).u = t.u := ⟨(keep_root t).o, (keep_root t).u⟩
/-- An answer of a state that is P's is P's answer's. -/
theorem Sim.an (h : Sim s k P n) (g : Sim n.s n.k (anS n.s n.k (own n)) n') : Sim s k (anS s k P) n' := by
  have ha := h.ask
  have hk : n.k.ph = k.ph ∧ n.k.ep = k.ep ∧ n.k.mj = k.mj := by rw [h.k]; exact ⟨rfl, rfl, rfl⟩
  have hep : n.t.ep = P.t.ep ∧ n.t.rt = P.t.rt := by rw [h.t]; exact ⟨rfl, rfl⟩
  have key : ∀ (A B : A5), anS n.s n.k (own n) = A → anS s k P = B → A.d = B.d → A.xs = B.xs → A.ov = B.ov → A.t = tw B.t n.t.u n.t.o → B.t.o = P.t.o → Sim s k (anS s k P) n' := by
    intro A B e1 e2 e3 e4 e5 e6 e7
    rw [e1] at g
    rw [e2]
    refine ⟨Sh.lens_trans h.len g.len, g.d.trans e3, g.xs.trans e4, ?_, ?_, ?_⟩
    · rw [← e5]
      have e := g.k
      rw [e]
      show Sh.kw n.k n'.k.wk A.ov = Sh.kw k n'.k.wk A.ov
      rw [h.k]
      rfl
    · have e := g.t
      rw [e6] at e
      conv => lhs; rw [e]
      rfl
    · rw [g.o, e6, e7]
      show n.t.o.n = _
      exact h.o
  by_cases hA : askB k.ph k.ep P.t = true
  · have hA' : askB n.k.ph n.k.ep (own n).t = true := ha.trans hA
    by_cases hE : P.t.ep = k.ep
    · have hE' : (own n).t.ep = n.k.ep := by rw [hk.2.1]; exact hep.1.trans hE
      by_cases hP : k.ph = 2
      · refine key ⟨n.d, n.xs, n.k.ov, te n.t n.t.ep 2 n.t.rt⟩ ⟨P.d, P.xs, P.ov, te P.t P.t.ep 2 P.t.rt⟩ ?_ ?_ h.d h.xs h.ov ?_ rfl
        · unfold anS; rw [if_pos hA', if_pos hE', if_pos (hk.1.trans hP)]; rfl
        · unfold anS; rw [if_pos hA, if_pos hE, if_pos hP]
        · rw [hep.1, hep.2]; exact h.tt _ _ _
      · refine key (rootS n.s n.k (own n)) (rootS s k P) ?_ ?_ ?_ ?_ ?_ ?_ (root_o _).1
        · unfold anS; rw [if_pos hA', if_pos hE', if_neg (by rw [hk.1]; exact hP)]
        · unfold anS; rw [if_pos hA, if_pos hE, if_neg hP]
        · show Sh.shD n.s n.d n.k.mj n.k.ep (getV n.t n.t.rt) = _
          rw [h.sh, h.get]
          rfl
        · show Sh.shX (Sh.isC n.s n.d n.k.mj n.k.ep (getV n.t n.t.rt) 1) n.xs (getV n.t n.t.rt) = _
          rw [h.isC, h.get, h.xs]
          rfl
        · show Sh.shO (Sh.isC n.s n.d n.k.mj n.k.ep (getV n.t n.t.rt) 1) n.xs n.k.ov = _
          rw [h.isC, h.get, h.xs, h.ov]
          rfl
        · exact h.root
    · have hE' : ¬ (own n).t.ep = n.k.ep := by rw [hk.2.1]; exact fun e => hE (hep.1.symm.trans e)
      refine key ⟨n.d, n.xs, n.k.ov, te n.t n.k.ep 1 0⟩ ⟨P.d, P.xs, P.ov, te P.t k.ep 1 0⟩ ?_ ?_ h.d h.xs h.ov ?_ rfl
      · unfold anS; rw [if_pos hA', if_neg hE']; rfl
      · unfold anS; rw [if_pos hA, if_neg hE]
      · rw [hk.2.1]; exact h.tt _ _ _
  · have hA' : ¬ askB n.k.ph n.k.ep (own n).t = true := by show ¬ askB n.k.ph n.k.ep n.t = true; rw [ha]; exact hA
    refine key (own n) P ?_ ?_ h.d h.xs h.ov h.t rfl
    · unfold anS; rw [if_neg hA']
    · unfold anS; rw [if_neg hA]
end
/-- What an answer leaves. -/
def AnOut (w : World) (s : Hs) (k : Sh.Ks) (P : A5) (F : Nat → List Int) (g : Nat → O4) (e : Ending) (w' : World) : Prop :=
  ∃ n : Q3, e = .returned (.tuple #[(.agg #[.slice n.s.w.a n.s.w.n n.s.w.c, .slice n.s.p.a n.s.p.n n.s.p.c, .slice (n.s.u 0).a (n.s.u 0).n (n.s.u 0).c, .slice (n.s.u 1).a (n.s.u 1).n (n.s.u 1).c, .slice (n.s.u 2).a (n.s.u 2).n (n.s.u 2).c, .slice n.s.c.a n.s.c.n n.s.c.c]), (.agg #[.int .i64 n.k.ph, .int .i64 n.k.ep, .bool n.k.mj, .slice n.k.wk.a n.k.wk.n n.k.wk.c, .bool n.k.ov, .int .i64 n.k.pa, .int .i64 n.k.pf, .int .i64 n.k.ps, .int .i64 n.k.pc, .bool n.k.me]), (.agg #[.bool n.t.lv, .int .i64 (n.t.r 0), .int .i64 (n.t.r 1), .int .i64 (n.t.r 2), .int .i64 (n.t.r 3), .slice (n.t.u 0).a (n.t.u 0).n (n.t.u 0).c, .slice (n.t.u 1).a (n.t.u 1).n (n.t.u 1).c, .slice (n.t.u 2).a (n.t.u 2).n (n.t.u 2).c, .int .i64 n.t.ep, .int .i64 n.t.sg, .int .i64 n.t.rt, .slice n.t.o.a n.t.o.n n.t.o.c, .int .i64 n.t.pc, .int .i64 n.t.x, .int .i64 n.t.y])]) ∧ Sim s k P n ∧ n.F = F ∧ n.g = g ∧ Hold w' n ∧ NewQ w.heap.size n ∧ Below w.heap.size w w'
end Go.Proofs.YtgmkomnoiffapaaGreatDoor.Ha
end
section
namespace Go.Proofs.YtgmkomnoiffapaaGreatDoor
open Go.RowKit

section
variable {P : Program} {ops : Array Oper} {Q : Exit → Act → World → Prop} {md : Region.Mode}
theorem wpAny_inv (Inv : (Nat → Bool) → Act → World → Prop) (hdag : ∀ (i : Nat) (o : Oper), ops[i]? = some o → ∀ e ∈ o.after, Region.binds md e = true → e.on < i)
    (hstep : ∀ (i : Nat) (o : Oper) (l : Nat → Bool) (a : Act) (w : World), ops[i]? = some o → Inv l a w → l i = false → (∀ e ∈ o.after, Region.binds md e = true → l e.on = true) → ∀ K : Act → World → Prop, (∀ a' w', Inv (Ls.upd l i true) a' w' → K a' w') → wpOp P ops Q i K a w)
    (hdone : ∀ (l : Nat → Bool) (a : Act) (w : World), Inv l a w → (∀ i, i < ops.size → l i = true) → Q .normal a w) :
    ∀ (fuel : Nat) (listed : Array Bool) (l : Nat → Bool) (a : Act) (w : World), listed.size = ops.size → (∀ j, j < ops.size → listed.getD j true = l j) → Ls.todo ops.size l ≤ fuel → Inv l a w → wpAny P md ops Q fuel listed a w := by
  intro fuel
  induction fuel with
  | zero =>
    intro listed l a w hs hl ht hi
    have hall := Ls.todo_none ops.size (Nat.le_zero.1 ht)
    refine ⟨List.eq_nil_iff_forall_not_mem.2 fun j hj => ?_, hdone l a w hi hall⟩
    obtain ⟨h1, o, ho, _⟩ := mem_ready.1 hj
    have hlt : j < ops.size := (Array.getElem?_eq_some_iff.1 ho).1
    rw [hl j hlt, hall j hlt] at h1
    cases h1
  | succ fuel ih =>
    intro listed l a w hs hl ht hi
    refine ⟨fun hr => hdone l a w hi ?_, fun i hri => ?_⟩
    · intro i
      induction i using Nat.strongRecOn with
      | ind i ihi =>
        intro hlt
        cases hli : l i with
        | true => rfl
        | false =>
          have ho : ops[i]? = some ops[i] := Array.getElem?_eq_getElem hlt
          have : i ∈ Region.ready md ops listed := mem_ready.2 ⟨by rw [hl i hlt]; exact hli, _, ho, fun e he hbd => by
            have hlo := hdag i _ ho e he hbd
            have h1 := ihi e.on hlo (by omega)
            rw [← hl e.on (by omega)] at h1
            rw [Array.getD_eq_getD_getElem?] at h1 ⊢
            rw [Array.getElem?_eq_getElem (by omega)] at h1 ⊢
            exact h1⟩
          rw [hr] at this
          cases this
    · obtain ⟨h1, o, ho, ha⟩ := mem_ready.1 hri
      have hlt : i < ops.size := (Array.getElem?_eq_some_iff.1 ho).1
      rw [hl i hlt] at h1
      refine hstep i o l a w ho hi h1 (fun e he hb => ?_) _ (fun a' w' hi' => ih _ (Ls.upd l i true) a' w' (by simpa using hs) (fun j hj => ?_) ?_ hi')
      · have h2 := ha e he hb
        have hlo := hdag i o ho e he hb
        rw [← hl e.on (by omega)]
        rw [Array.getD_eq_getD_getElem?] at h2 ⊢
        rw [Array.getElem?_eq_getElem (by omega)] at h2 ⊢
        exact h2
      · by_cases e : j = i
        · subst e
          rw [Ls.upd_same, Array.getD_eq_getD_getElem?, Array.getElem?_setIfInBounds_self_of_lt (by omega)]
          rfl
        · rw [Ls.upd_other _ _ e, Array.getD_eq_getD_getElem?, Array.getElem?_setIfInBounds_ne (fun h => e h.symm), ← Array.getD_eq_getD_getElem?]
          exact hl j hj
      · have := Ls.todo_upd h1 ops.size hlt
        omega
theorem wp_region_from {id : Nat} {a : Act} {w : World} (hm : P.follows .mixedOrders = true) (Inv : Act → (Nat → Bool) → Act → World → Prop) (hdag : ∀ (i : Nat) (o : Oper), ops[i]? = some o → ∀ e ∈ o.after, Region.binds .any e = true → e.on < i)
    (hstart : Inv a (fun _ => false) a w.drew)
    (hstep : ∀ (i : Nat) (o : Oper) (l : Nat → Bool) (a' : Act) (w : World), ops[i]? = some o → Inv a l a' w → l i = false → (∀ e ∈ o.after, Region.binds .any e = true → l e.on = true) → ∀ K : Act → World → Prop, (∀ a'' w', Inv a (Ls.upd l i true) a'' w' → K a'' w') → wpOp P ops Q i K a' w)
    (hdone : ∀ (l : Nat → Bool) (a' : Act) (w : World), Inv a l a' w → (∀ i, i < ops.size → l i = true) → Q .normal a' w) : (Code.region id ops true).wp P Q a w :=
  wp_region_any hm (wpAny_inv (Inv a) hdag hstep hdone ops.size _ (fun _ => false) a w.drew (by simp) (fun j hj => by
    rw [Array.getD_eq_getD_getElem?, Array.getElem?_replicate, if_pos hj]
    rfl) (Ls.todo_le _ _) hstart)
/-- The edges that bind lead back. -/
def backAny (ops : Array Oper) : Bool := (List.range ops.size).all fun i => ((ops[i]?).map fun o => o.after.all fun e => !Region.binds .any e || decide (e.on < i)).getD true
theorem dag_any {ops : Array Oper} (h : backAny ops = true) : ∀ (i : Nat) (o : Oper), ops[i]? = some o → ∀ e ∈ o.after, Region.binds .any e = true → e.on < i := by
  intro i o ho e he hb
  have hi : i < ops.size := (Array.getElem?_eq_some_iff.1 ho).1
  have := List.all_eq_true.1 h i (List.mem_range.2 hi)
  rw [ho] at this
  simp only [Option.map_some, Option.getD_some] at this
  have := Array.all_eq_true_iff_forall_mem.1 this e he
  rw [hb] at this
  simpa using this
theorem wpOp_of {i : Nat} {o : Oper} {a : Act} {w : World} {K : Act → World → Prop} (ho : ops[i]? = some o)
    (h : if Region.wanted o (yielded ops a.tmps) = true then o.wp P a w K Q else K (a.put o.dst undef) w) : wpOp P ops Q i K a w := by
  unfold wpOp
  rw [ho]
  simp only
  split
  · next hw => rw [if_pos hw] at h; exact .inl h
  · next hw => rw [if_neg hw] at h; exact h
end
end Go.Proofs.YtgmkomnoiffapaaGreatDoor
end
section
namespace Go.Proofs.YtgmkomnoiffapaaGreatDoor.Mu
open Go.Proofs.YtgmkomnoiffapaaGreatDoor
open Go.RowKit
set_option maxRecDepth 100000

/-- What slots hold: those of what has been carried out. -/
structure Pl (ops : Array Oper) (a0 : Act) (val : Nat → Value) (l : Nat → Bool) (a : Act) : Prop where
  sz : a.tmps.size = a0.tmps.size
  df : a.defers = a0.defers
  out : ∀ j : Nat, (∀ (i : Nat) (o : Oper), ops[i]? = some o → ¬ o.dst = some j) → a.tmps[j]? = a0.tmps[j]?
  got : ∀ (i : Nat) (o : Oper) (s : Nat), ops[i]? = some o → l i = true → o.dst = some s → a.tmps[s]? = some (val i)
/-- Slots within the frame, no two alike; no operation is guarded. -/
def fitB (ops : Array Oper) (n : Nat) : Bool := (List.range ops.size).all fun i => ((ops[i]?).map fun o => o.guard.isNone && (match o.dst with
  | none => true
  | some s => decide (s < n) && (List.range i).all fun j => ((ops[j]?).map fun q => !(q.dst == some s)).getD true)).getD true
theorem fit_one {ops : Array Oper} {n i : Nat} {o : Oper} (h : fitB ops n = true) (ho : ops[i]? = some o) : o.guard = none ∧ ∀ s, o.dst = some s → s < n ∧ ∀ j q, j < i → ops[j]? = some q → ¬ q.dst = some s := by
  have hi : i < ops.size := (Array.getElem?_eq_some_iff.1 ho).1
  have h1 := List.all_eq_true.1 h i (List.mem_range.2 hi)
  rw [ho] at h1
  simp only [Option.map_some, Option.getD_some, Bool.and_eq_true] at h1
  refine ⟨by simpa using h1.1, fun s hs => ?_⟩
  have h2 := h1.2
  rw [hs] at h2
  simp only [Bool.and_eq_true, decide_eq_true_eq] at h2
  refine ⟨h2.1, fun j q hj hq hd => ?_⟩
  have h3 := List.all_eq_true.1 h2.2 j (List.mem_range.2 hj)
  rw [hq] at h3
  simp [hd] at h3
theorem Pl.put {ops : Array Oper} {a0 a : Act} {val val' : Nat → Value} {l : Nat → Bool} {i : Nat} {o : Oper} (hf : fitB ops a0.tmps.size = true) (h : Pl ops a0 val l a) (ho : ops[i]? = some o) (hv : ∀ j, l j = true → val' j = val j) (hl : l i = false) : Pl ops a0 val' (Ls.upd l i true) (a.put o.dst (val' i)) := by
  cases hd : o.dst with
  | none =>
    refine ⟨h.sz, h.df, h.out, fun j q s hq hj hs => ?_⟩
    by_cases e : j = i
    · subst e
      rw [ho] at hq
      cases hq
      rw [hd] at hs
      cases hs
    · rw [Ls.upd_other _ _ e] at hj
      rw [hv j hj]
      exact h.got j q s hq hj hs
  | some s =>
    have h1 := ((fit_one hf ho).2 s hd)
    refine ⟨by simp [Act.put, h.sz], h.df, fun j hj => ?_, fun j q s' hq hj hs => ?_⟩
    · have hne : ¬ s = j := fun e => hj i o ho (by rw [hd, e])
      rw [← h.out j hj]
      simp [Act.put, Array.getElem?_setIfInBounds_ne hne]
    · by_cases e : j = i
      · subst e
        rw [ho] at hq
        cases hq
        rw [hd] at hs
        cases hs
        have : s < a.tmps.size := by rw [h.sz]; exact h1.1
        simp [Act.put, this]
      · rw [Ls.upd_other _ _ e] at hj
        have hne : ¬ s = s' := fun e' => by
          subst e'
          rcases Nat.lt_or_gt_of_ne e with hlt | hlt
          · exact h1.2 j q hlt hq hs
          · exact ((fit_one hf hq).2 s hs).2 i o hlt ho hd
        rw [hv j hj, ← h.got j q s' hq hj hs]
        simp [Act.put, Array.getElem?_setIfInBounds_ne hne]
def noDst (ops : Array Oper) (j : Nat) : Bool := (List.range ops.size).all fun i => ((ops[i]?).map fun o => !(o.dst == some j)).getD true
theorem Pl.keep {ops : Array Oper} {a0 a : Act} {val : Nat → Value} {l : Nat → Bool} (h : Pl ops a0 val l a) {j : Nat} (hj : noDst ops j = true) : a.tmps[j]? = a0.tmps[j]? := h.out j fun i o ho hd => by
  have hi : i < ops.size := (Array.getElem?_eq_some_iff.1 ho).1
  have h1 := List.all_eq_true.1 hj i (List.mem_range.2 hi)
  rw [ho] at h1
  simp [hd] at h1
section
variable {P : Program} {ops : Array Oper} {Q : Exit → Act → World → Prop}
theorem region_plan {X : Type} {id : Nat} {a : Act} {w : World} (hm : P.follows .mixedOrders = true) (hb : backAny ops = true) (hf : fitB ops a.tmps.size = true) (val : X → Nat → Value) (I : X → (Nat → Bool) → World → Prop) (x0 : X) (hstart : I x0 (fun _ => false) w.drew)
    (hstep : ∀ (i : Nat) (o : Oper) (l : Nat → Bool) (a' : Act) (x : X) (W : World), ops[i]? = some o → Pl ops a (val x) l a' → I x l W → l i = false → (∀ e ∈ o.after, Region.binds .any e = true → l e.on = true) → ∀ K : Act → World → Prop,
      (∀ (x' : X) (W' : World), (∀ j, l j = true → val x' j = val x j) → I x' (Ls.upd l i true) W' → K (a'.put o.dst (val x' i)) W') → o.wp P a' W K Q)
    (hdone : ∀ (l : Nat → Bool) (a' : Act) (x : X) (W : World), Pl ops a (val x) l a' → I x l W → (∀ i, i < ops.size → l i = true) → Q .normal a' W) : (Code.region id ops true).wp P Q a w := by
  refine wp_region_from hm (fun a0 l a' W => a0 = a ∧ ∃ x, Pl ops a (val x) l a' ∧ I x l W) (dag_any hb) ⟨rfl, x0, ⟨rfl, rfl, fun _ _ => rfl, fun _ _ _ _ h => by cases h⟩, hstart⟩ ?_ ?_
  · rintro i o l a' W ho ⟨_, x, hP, hI⟩ hl haft K hK
    refine wpOp_of ho ?_
    have hg : Region.wanted o (yielded ops a'.tmps) = true := by
      unfold Region.wanted
      rw [(fit_one hf ho).1]
    rw [if_pos hg]
    exact hstep i o l a' x W ho hP hI hl haft K fun x' W' hv hI' => hK _ _ ⟨rfl, x', hP.put hf ho hv hl, hI'⟩
  · rintro l a' W ⟨_, x, hP, hI⟩ hall
    exact hdone l a' x W hP hI hall
/-- One operation. -/
theorem ev {a : Act} {s : Nat} {v : Value} (h : a.tmps[s]? = some v) : a.eval (.tmp s) = v := by
  show a.tmps.getD s undef = v
  rw [Array.getD_eq_getD_getElem?, h]
  rfl
variable {o : Oper} {a : Act} {W : World} {K : Act → World → Prop}
theorem p_load {x : Operand} {ty : TypeId} {p v : Value} (ho : o.op = .load ty x) (hx : a.eval x = p) (hr : (Instr.loadAt ty p).run P W = .ok v W) (hK : K (a.put o.dst v) W) : o.wp P a W K Q := by
  unfold Oper.wp execOp
  simp only [ho, hx, Sem.run_bind, hr, Result.andThen_ok]
  exact hK
theorem p_store {x y : Operand} {ty : TypeId} {p v : Value} {W' : World} (ho : o.op = .store ty x y) (hx : a.eval x = p) (hy : a.eval y = v) (hr : (Instr.storeAt ty p v).run P W = .ok () W') (hK : K (a.put o.dst undef) W') : o.wp P a W K Q := by
  unfold Oper.wp execOp
  simp only [ho, hx, hy, Sem.run_bind, hr, Result.andThen_ok]
  exact hK
end
end Go.Proofs.YtgmkomnoiffapaaGreatDoor.Mu
end
section
namespace Go.Proofs.YtgmkomnoiffapaaGreatDoor.Sh
open Go.Proofs.YtgmkomnoiffapaaGreatDoor
open Go.RowKit
set_option maxRecDepth 100000

structure Rg (a0 a : Act) (lo hi : Nat) : Prop where
  sz : a.tmps.size = a0.tmps.size
  df : a.defers = a0.defers
  out : ∀ j, (j < lo ∨ hi ≤ j) → a.tmps[j]? = a0.tmps[j]?
theorem Rg.refl (a0 : Act) (lo hi : Nat) : Rg a0 a0 lo hi := ⟨rfl, rfl, fun _ _ => rfl⟩
theorem put_at {a : Act} {i : Nat} {v : Value} (h : i < a.tmps.size) : (a.put (some i) v).tmps[i]? = some v := by
  simp [Act.put, h]
theorem put_ne {a : Act} {i j : Nat} {v : Value} (h : ¬ i = j) : (a.put (some i) v).tmps[j]? = a.tmps[j]? := by
  simp [Act.put, Array.getElem?_setIfInBounds_ne h]
theorem Rg.put {a0 a : Act} {lo hi i : Nat} (h : Rg a0 a lo hi) (v : Value) (h1 : lo ≤ i) (h2 : i < hi) : Rg a0 (a.put (some i) v) lo hi :=
  ⟨by simp [Act.put, h.sz], h.df, fun j hj => (put_ne (by omega)).trans (h.out j hj)⟩
theorem region_gen {P : Program} {c : Code} {Q : Exit → Act → World → Prop} {a : Act} {w : World} (h : ∀ a0, a0 = a → c.wp P Q a0 w) : c.wp P Q a w := h a rfl
theorem act_ext {a b : Act} (h1 : a.defers = b.defers) (h2 : ∀ j : Nat, a.tmps[j]? = b.tmps[j]?) : a = b := by
  obtain ⟨x, y⟩ := a
  obtain ⟨z, u⟩ := b
  dsimp only at h1 h2
  rw [Array.ext_getElem? h2, h1]
end Go.Proofs.YtgmkomnoiffapaaGreatDoor.Sh
end
section
namespace Go.Proofs.YtgmkomnoiffapaaGreatDoor.Ha
open Go.Proofs.YtgmkomnoiffapaaGreatDoor Go.Proofs.YtgmkomnoiffapaaGreatDoor.Rt
open Go.RowKit
open Go.Proofs.YtgmkomnoiffapaaGreatDoor.Mu (hv kv OffH OffT noHs0 noK0 infH infK infT)
set_option maxRecDepth 100000

def sel (c : Bool) (x y : List Value) : List Value := if c = true then x else y
/-- Results, put in their boxes one by one. -/
structure R6 (w : World) (p : Nat → Nat) (n : Q3) (l : Nat → Bool) (W : World) : Prop where
  st : W6 w W p (c6 (hv n.s) (kv n.k) (tv n.t) (sel (l 3) (hv n.s) (hv noHs0)) (sel (l 4) (kv n.k) (kv noK0)) (sel (l 5) (tv n.t) (tv noT))) [n]
section
variable {w W : World} {p : Nat → Nat} {n : Q3} {l : Nat → Bool}
theorem r6_start (h : W6 w W p (c6 (hv n.s) (kv n.k) (tv n.t) (hv noHs0) (kv noK0) (tv noT)) [n]) : R6 w p n (fun _ => false) W := ⟨h⟩
theorem R6.pure (h : R6 w p n l W) {i : Nat} (hi : i < 3) : R6 w p n (Ls.upd l i true) W :=
  ⟨by rw [Ls.upd_other _ _ (show ¬ 3 = i by omega), Ls.upd_other _ _ (show ¬ 4 = i by omega), Ls.upd_other _ _ (show ¬ 5 = i by omega)]; exact h.st⟩
theorem R6.put3 (h : R6 w p n l W) : R6 w p n (Ls.upd l 3 true) (puts (p 3) 0 (hv n.s) W) :=
  ⟨h.st.puts 3 (by decide) (hv n.s) (by show (sel (l 3) (hv n.s) (hv noHs0)).length = _; unfold sel; split <;> rfl) (all6 ⟨rfl, rfl, rfl, rfl, rfl, rfl⟩)⟩
theorem R6.put4 (h : R6 w p n l W) : R6 w p n (Ls.upd l 4 true) (puts (p 4) 0 (kv n.k) W) :=
  ⟨h.st.puts 4 (by decide) (kv n.k) (by show (sel (l 4) (kv n.k) (kv noK0)).length = _; unfold sel; split <;> rfl) (all6 ⟨rfl, rfl, rfl, rfl, rfl, rfl⟩)⟩
theorem R6.put5 (h : R6 w p n l W) : R6 w p n (Ls.upd l 5 true) (puts (p 5) 0 (tv n.t) W) :=
  ⟨h.st.puts 5 (by decide) (tv n.t) (by show (sel (l 5) (tv n.t) (tv noT)).length = _; unfold sel; split <;> rfl) (all6 ⟨rfl, rfl, rfl, rfl, rfl, rfl⟩)⟩
theorem R6.done (h : R6 w p n l W) (h3 : l 3 = true) (h4 : l 4 = true) (h5 : l 5 = true) : W6 w W p (c6 (hv n.s) (kv n.k) (tv n.t) (hv n.s) (kv n.k) (tv n.t)) [n] := by
  have := h.st
  rw [h3, h4, h5] at this
  exact this
theorem sel_h {c : Bool} {x y : Hs} : (sel c (hv x) (hv y)).length = 6 := by unfold sel; split <;> rfl
theorem sel_k {c : Bool} {x y : Sh.Ks} : (sel c (kv x) (kv y)).length = 10 := by unfold sel; split <;> rfl
theorem sel_t {c : Bool} {x y : Ts} : (sel c (tv x) (tv y)).length = 15 := by unfold sel; split <;> rfl
/-- Results that lie in three boxes. -/
theorem res3 {fn : Func} (hf : fn.results = #[.cell 6 28, .cell 7 30, .cell 8 34]) {tm : Array Value} {bh bk bt : Nat} {u : Hs} {q : Sh.Ks} {v : Ts} (h6 : tm[6]? = some (.pointer (some ⟨bh, 0, none⟩))) (h7 : tm[7]? = some (.pointer (some ⟨bk, 0, none⟩))) (h8 : tm[8]? = some (.pointer (some ⟨bt, 0, none⟩)))
    (xh : Box W bh (hv u)) (xk : Box W bk (kv q)) (xt : Box W bt (tv v)) : (results fn tm).run Tryz.prog W = .ok (.tuple #[(.agg #[.slice u.w.a u.w.n u.w.c, .slice u.p.a u.p.n u.p.c, .slice (u.u 0).a (u.u 0).n (u.u 0).c, .slice (u.u 1).a (u.u 1).n (u.u 1).c, .slice (u.u 2).a (u.u 2).n (u.u 2).c, .slice u.c.a u.c.n u.c.c]), (.agg #[.int .i64 q.ph, .int .i64 q.ep, .bool q.mj, .slice q.wk.a q.wk.n q.wk.c, .bool q.ov, .int .i64 q.pa, .int .i64 q.pf, .int .i64 q.ps, .int .i64 q.pc, .bool q.me]), (.agg #[.bool v.lv, .int .i64 (v.r 0), .int .i64 (v.r 1), .int .i64 (v.r 2), .int .i64 (v.r 3), .slice (v.u 0).a (v.u 0).n (v.u 0).c, .slice (v.u 1).a (v.u 1).n (v.u 1).c, .slice (v.u 2).a (v.u 2).n (v.u 2).c, .int .i64 v.ep, .int .i64 v.sg, .int .i64 v.rt, .slice v.o.a v.o.n v.o.c, .int .i64 v.pc, .int .i64 v.x, .int .i64 v.y])]) W := by
  have l1 := run_loadVar_mid (P := Tryz.prog) W bh 0 28 (hv u) _ (fun j v hj => by rw [Nat.zero_add]; exact xh.cel j v hj) Tryz.underlying28 rfl infH
  have l2 := run_loadVar_mid (P := Tryz.prog) W bk 0 30 (kv q) _ (fun j v hj => by rw [Nat.zero_add]; exact xk.cel j v hj) Tryz.underlying30 rfl infK
  have l3 := run_loadVar_mid (P := Tryz.prog) W bt 0 34 (tv v) _ (fun j v hj => by rw [Nat.zero_add]; exact xt.cel j v hj) Tryz.underlying34 rfl infT
  simp [results, hf, h6, h7, h8, asAddr, l1, l2, l3]
  exact ⟨rfl, rfl, rfl⟩
end
/-- Copies: where they lie. -/
structure Gx where
  s : Hs
  v : Ls.Sl
  u : Nat → Ls.Sl
  o : Ls.Sl
structure J9 (w : World) (n : Q3) (x : Gx) (l : Nat → Bool) (W : World) : Prop where
  st : W6 w W (p6 w.heap.size (w.heap.size + 1) (w.heap.size + 2) (w.heap.size + 3) (w.heap.size + 4) (w.heap.size + 5)) (c6 (sel (l 6) (hv x.s) (hv n.s)) (sel (l 7) (kv (Sh.kw n.k x.v n.k.ov)) (kv n.k)) (sel (l 8) (tv (tw n.t x.u x.o)) (tv n.t)) (hv noHs0) (kv noK0) (tv noT)) []
  k1 : l 1 = true → l 0 = true
  k3 : l 3 = true → l 2 = true
  k5 : l 5 = true → l 4 = true
  k6 : l 6 = true → l 1 = true
  k7 : l 7 = true → l 3 = true
  k8 : l 8 = true → l 5 = true
  h1 : l 1 = true → Hp W W.heap.size x.s n.d ∧ Lens n.s x.s ∧ News (w.heap.size + 6) x.s
  h3 : l 3 = true → Row W W.heap.size x.v.a x.v.n n.xs ∧ (0 < x.v.n → ∀ y, x.v.a = some y → w.heap.size + 6 ≤ y.block)
  h5 : l 5 = true → Th W W.heap.size (tw n.t x.u x.o) n.F n.g ∧ x.o.n = n.t.o.n ∧ (∀ j, j < 3 → ∀ y, (x.u j).a = some y → w.heap.size + 6 ≤ y.block) ∧ (0 < x.o.n → ∀ y, x.o.a = some y → w.heap.size + 6 ≤ y.block)
section
variable {w W W' : World} {n : Q3} {x : Gx} {l : Nat → Bool} {s' : Hs} {v' o' : Ls.Sl} {u' : Nat → Ls.Sl}
theorem J9.next (h : J9 w n x l W) (hb : Below W.heap.size W W') : J9 w n x l W' := ⟨h.st.next hb, h.k1, h.k3, h.k5, h.k6, h.k7, h.k8, fun e => ⟨(h.h1 e).1.next hb, (h.h1 e).2⟩, fun e => ⟨((h.h3 e).1.below hb).more hb.size, (h.h3 e).2⟩, fun e => ⟨(h.h5 e).1.next hb, (h.h5 e).2⟩⟩
theorem J9.size (h : J9 w n x l W) : w.heap.size + 6 ≤ W.heap.size := by have : w.heap.size + 5 < W.heap.size := h.st.lt (i := 5) (by decide); omega
theorem j9_start (h : W6 w W (p6 w.heap.size (w.heap.size + 1) (w.heap.size + 2) (w.heap.size + 3) (w.heap.size + 4) (w.heap.size + 5)) (c6 (hv n.s) (kv n.k) (tv n.t) (hv noHs0) (kv noK0) (tv noT)) []) (x : Gx) : J9 w n x (fun _ => false) W :=
  ⟨h, fun e => (by cases e), fun e => (by cases e), fun e => (by cases e), fun e => (by cases e), fun e => (by cases e), fun e => (by cases e), fun e => (by cases e), fun e => (by cases e), fun e => (by cases e)⟩
theorem nt {b : Bool} (h : b = true → False) : b = false := by cases b; rfl; exact absurd rfl h
theorem J9.pure (h : J9 w n x l W) {i : Nat} (hi : i = 0 ∨ i = 2 ∨ i = 4) : J9 w n x (Ls.upd l i true) W := by
  have q : ∀ j, ¬ (j = 0 ∨ j = 2 ∨ j = 4) → Ls.upd l i true j = l j := fun j hj => Ls.upd_other _ _ (by omega)
  have u : ∀ j, l j = true → Ls.upd l i true j = true := fun j hj => by unfold Ls.upd; split; rfl; exact hj
  exact ⟨by rw [q 6 (by omega), q 7 (by omega), q 8 (by omega)]; exact h.st, by rw [q 1 (by omega)]; exact fun e => u _ (h.k1 e), by rw [q 3 (by omega)]; exact fun e => u _ (h.k3 e), by rw [q 5 (by omega)]; exact fun e => u _ (h.k5 e), by rw [q 6 (by omega), q 1 (by omega)]; exact h.k6, by rw [q 7 (by omega), q 3 (by omega)]; exact h.k7, by rw [q 8 (by omega), q 5 (by omega)]; exact h.k8, by rw [q 1 (by omega)]; exact h.h1, by rw [q 3 (by omega)]; exact h.h3, by rw [q 5 (by omega)]; exact h.h5⟩
theorem J9.set1 (h : J9 w n x l W) (hl : l 1 = false) (h0 : l 0 = true) (hp : Hp W W.heap.size s' n.d) (hL : Lens n.s s') (hn : News (w.heap.size + 6) s') : J9 w n ⟨s', x.v, x.u, x.o⟩ (Ls.upd l 1 true) W := by
  have q : ∀ j, ¬ j = 1 → Ls.upd l 1 true j = l j := fun j hj => Ls.upd_other _ _ hj
  have e6 : l 6 = false := nt fun e => by rw [h.k6 e] at hl; cases hl
  exact ⟨by rw [q 6 (by decide), q 7 (by decide), q 8 (by decide), e6]; have := h.st; rw [e6] at this; exact this, fun _ => by rw [q 0 (by decide)]; exact h0, by rw [q 3 (by decide), q 2 (by decide)]; exact h.k3, by rw [q 5 (by decide), q 4 (by decide)]; exact h.k5, by rw [q 6 (by decide), e6]; exact fun e => (by cases e), by rw [q 7 (by decide), q 3 (by decide)]; exact h.k7, by rw [q 8 (by decide), q 5 (by decide)]; exact h.k8, fun _ => ⟨hp, hL, hn⟩, by rw [q 3 (by decide)]; exact h.h3, by rw [q 5 (by decide)]; exact h.h5⟩
theorem J9.set3 (h : J9 w n x l W) (hl : l 3 = false) (h0 : l 2 = true) (hp : Row W W.heap.size v'.a v'.n n.xs) (hn : 0 < v'.n → ∀ y, v'.a = some y → w.heap.size + 6 ≤ y.block) : J9 w n ⟨x.s, v', x.u, x.o⟩ (Ls.upd l 3 true) W := by
  have q : ∀ j, ¬ j = 3 → Ls.upd l 3 true j = l j := fun j hj => Ls.upd_other _ _ hj
  have e7 : l 7 = false := nt fun e => by rw [h.k7 e] at hl; cases hl
  exact ⟨by rw [q 6 (by decide), q 7 (by decide), q 8 (by decide), e7]; have := h.st; rw [e7] at this; exact this, by rw [q 1 (by decide), q 0 (by decide)]; exact h.k1, fun _ => by rw [q 2 (by decide)]; exact h0, by rw [q 5 (by decide), q 4 (by decide)]; exact h.k5, by rw [q 6 (by decide), q 1 (by decide)]; exact h.k6, by rw [q 7 (by decide), e7]; exact fun e => (by cases e), by rw [q 8 (by decide), q 5 (by decide)]; exact h.k8, by rw [q 1 (by decide)]; exact h.h1, fun _ => ⟨hp, hn⟩, by rw [q 5 (by decide)]; exact h.h5⟩
theorem J9.set5 (h : J9 w n x l W) (hl : l 5 = false) (h0 : l 4 = true) (hp : Th W W.heap.size (tw n.t u' o') n.F n.g) (ho : o'.n = n.t.o.n) (hu : ∀ j, j < 3 → ∀ y, (u' j).a = some y → w.heap.size + 6 ≤ y.block) (hn : 0 < o'.n → ∀ y, o'.a = some y → w.heap.size + 6 ≤ y.block) : J9 w n ⟨x.s, x.v, u', o'⟩ (Ls.upd l 5 true) W := by
  have q : ∀ j, ¬ j = 5 → Ls.upd l 5 true j = l j := fun j hj => Ls.upd_other _ _ hj
  have e8 : l 8 = false := nt fun e => by rw [h.k8 e] at hl; cases hl
  exact ⟨by rw [q 6 (by decide), q 7 (by decide), q 8 (by decide), e8]; have := h.st; rw [e8] at this; exact this, by rw [q 1 (by decide), q 0 (by decide)]; exact h.k1, by rw [q 3 (by decide), q 2 (by decide)]; exact h.k3, fun _ => by rw [q 4 (by decide)]; exact h0, by rw [q 6 (by decide), q 1 (by decide)]; exact h.k6, by rw [q 7 (by decide), q 3 (by decide)]; exact h.k7, by rw [q 8 (by decide), e8]; exact fun e => (by cases e), by rw [q 1 (by decide)]; exact h.h1, by rw [q 3 (by decide)]; exact h.h3, fun _ => ⟨hp, ho, hu, hn⟩⟩
/-- A copy is put in its box. -/
theorem J9.put (h : J9 w n x l W) {i : Nat} (hi : i = 6 ∨ i = 7 ∨ i = 8) {b : Nat} (hb : b < w.heap.size + 6) {vs : List Value} {c' : Nat → List Value} (e6 : i = 6 → l 1 = true) (e7 : i = 7 → l 3 = true) (e8 : i = 8 → l 5 = true)
    (hst : W6 w (puts b 0 vs W) (p6 w.heap.size (w.heap.size + 1) (w.heap.size + 2) (w.heap.size + 3) (w.heap.size + 4) (w.heap.size + 5)) c' [])
    (hc : c' = c6 (sel (Ls.upd l i true 6) (hv x.s) (hv n.s)) (sel (Ls.upd l i true 7) (kv (Sh.kw n.k x.v n.k.ov)) (kv n.k)) (sel (Ls.upd l i true 8) (tv (tw n.t x.u x.o)) (tv n.t)) (hv noHs0) (kv noK0) (tv noT)) : J9 w n x (Ls.upd l i true) (puts b 0 vs W) := by
  have q : ∀ j, j < 6 → Ls.upd l i true j = l j := fun j hj => Ls.upd_other _ _ (by omega)
  have u : ∀ j, Ls.upd l i true j = true → j = i ∨ l j = true := fun j hj => by
    by_cases e : j = i
    · exact .inl e
    · rw [Ls.upd_other _ _ e] at hj; exact .inr hj
  have hs : ∀ k, ¬ k = b → (puts b 0 vs W).heap[k]? = W.heap[k]? := fun _ hk => puts_other _ _ _ _ hk
  have hz : (puts b 0 vs W).heap.size = W.heap.size := puts_size _ _ _ _
  refine ⟨by rw [← hc]; exact hst, by rw [q 1 (by omega), q 0 (by omega)]; exact h.k1, by rw [q 3 (by omega), q 2 (by omega)]; exact h.k3, by rw [q 5 (by omega), q 4 (by omega)]; exact h.k5, fun e => ?_, fun e => ?_, fun e => ?_, fun e => ?_, fun e => ?_, fun e => ?_⟩
  · rw [q 1 (by omega)]
    rcases u 6 e with e | e
    · exact e6 e.symm
    · exact h.k6 e
  · rw [q 3 (by omega)]
    rcases u 7 e with e | e
    · exact e7 e.symm
    · exact h.k7 e
  · rw [q 5 (by omega)]
    rcases u 8 e with e | e
    · exact e8 e.symm
    · exact h.k8 e
  · rw [q 1 (by omega)] at e
    obtain ⟨a1, a2, a3⟩ := h.h1 e
    exact ⟨by rw [hz]; exact Mu.hp_off a1 (offh_new a3 hb) hs, a2, a3⟩
  · rw [q 3 (by omega)] at e
    obtain ⟨a1, a2⟩ := h.h3 e
    exact ⟨by rw [hz]; exact Mu.row_keep a1 (fun h0 y hy => hs y.block (by have := a2 h0 y hy; omega)), a2⟩
  · rw [q 5 (by omega)] at e
    obtain ⟨a1, a2, a3, a4⟩ := h.h5 e
    exact ⟨by rw [hz]; exact Mu.th_off a1 ⟨fun j hj _ y hy => by have := a3 j hj y hy; omega, fun h0 y hy => by have := a4 h0 y hy; omega⟩ hs, a2, a3, a4⟩
theorem J9.put6 (h : J9 w n x l W) (h1 : l 1 = true) : J9 w n x (Ls.upd l 6 true) (puts w.heap.size 0 (hv x.s) W) :=
  h.put (.inl rfl) (by omega) (fun _ => h1) (fun e => by cases e) (fun e => by cases e) (h.st.puts 0 (by decide) (hv x.s) sel_h (all6 ⟨rfl, rfl, rfl, rfl, rfl, rfl⟩)) rfl
theorem J9.put7 (h : J9 w n x l W) (h1 : l 3 = true) : J9 w n x (Ls.upd l 7 true) (puts (w.heap.size + 1) 0 (kv (Sh.kw n.k x.v n.k.ov)) W) :=
  h.put (.inr (.inl rfl)) (by omega) (fun e => by cases e) (fun _ => h1) (fun e => by cases e) (h.st.puts 1 (by decide) (kv (Sh.kw n.k x.v n.k.ov)) sel_k (all6 ⟨rfl, rfl, rfl, rfl, rfl, rfl⟩)) rfl
theorem J9.put8 (h : J9 w n x l W) (h1 : l 5 = true) : J9 w n x (Ls.upd l 8 true) (puts (w.heap.size + 2) 0 (tv (tw n.t x.u x.o)) W) :=
  h.put (.inr (.inr rfl)) (by omega) (fun e => by cases e) (fun e => by cases e) (fun _ => h1) (h.st.puts 2 (by decide) (tv (tw n.t x.u x.o)) sel_t (all6 ⟨rfl, rfl, rfl, rfl, rfl, rfl⟩)) rfl
/-- What stands when all has been copied. -/
def gQ (n : Q3) (x : Gx) : Q3 := ⟨x.s, Sh.kw n.k x.v n.k.ov, tw n.t x.u x.o, n.d, n.xs, n.F, n.g⟩
theorem J9.done (h : J9 w n x l W) (hall : ∀ i, i < 9 → l i = true) : (W6 w W (p6 w.heap.size (w.heap.size + 1) (w.heap.size + 2) (w.heap.size + 3) (w.heap.size + 4) (w.heap.size + 5)) (c6 (hv (gQ n x).s) (kv (gQ n x).k) (tv (gQ n x).t) (hv noHs0) (kv noK0) (tv noT)) [gQ n x]) ∧ NewQ (w.heap.size + 6) (gQ n x) ∧ Sim n.s n.k (own n) (gQ n x) := by
  have hst := h.st
  rw [hall 6 (by decide), hall 7 (by decide), hall 8 (by decide)] at hst
  obtain ⟨a1, a2, a3⟩ := h.h1 (hall 1 (by decide))
  obtain ⟨b1, b2⟩ := h.h3 (hall 3 (by decide))
  obtain ⟨d1, d2, d3, d4⟩ := h.h5 (hall 5 (by decide))
  have nw : NewQ (w.heap.size + 6) (gQ n x) := ⟨a3, b2, fun j hj _ y hy => d3 j hj y hy, d4⟩
  refine ⟨hst.held (show Hold W (gQ n x) from ⟨a1, b1, d1⟩) (all6 ⟨nw.off ?_, nw.off ?_, nw.off ?_, nw.off ?_, nw.off ?_, nw.off ?_⟩), nw, ⟨a2, rfl, rfl, rfl, rfl, d2⟩⟩ <;> simp only [p6] <;> omega
end
end Go.Proofs.YtgmkomnoiffapaaGreatDoor.Ha
end
section
namespace Go.Proofs.YtgmkomnoiffapaaGreatDoor.Rt
open Go.Proofs.YtgmkomnoiffapaaGreatDoor
open Go.RowKit
set_option maxRecDepth 100000

theorem two_boxes (w : World) (o p : Obj) : Below w.heap.size w ((w.alloc o).alloc p) := ((Below.refl _ _).alloc (Nat.le_refl _) _).alloc (by simp) _
end Go.Proofs.YtgmkomnoiffapaaGreatDoor.Rt
end
