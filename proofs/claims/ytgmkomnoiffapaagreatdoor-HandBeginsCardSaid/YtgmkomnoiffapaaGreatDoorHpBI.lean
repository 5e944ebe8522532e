/-
  Merged texts: HaSt, HpInv, MuPlan, ShAct, HaPlan, ShBlack, HaMid, HaW3, HaG, HaG2, CkP, CkOf, CkMark, CkDirty.
-/
import Derived.Test.YtgmkomnoiffapaaGreatDoorHpBG
import Derived.Test.YtgmkomnoiffapaaGreatDoorBShShade
import Derived.Test.YtgmkomnoiffapaaGreatDoorHpBE
import Derived.Test.YtgmkomnoiffapaaGreatDoorBRtFresh
import Derived.Test.YtgmkomnoiffapaaGreatDoorHpBH
import Derived.Deep.Cut
import Derived.Deep.CutRange
section
namespace Go.Proofs.YtgmkomnoiffapaaGreatDoor.Ha
open Go.Proofs.YtgmkomnoiffapaaGreatDoor Go.Proofs.YtgmkomnoiffapaaGreatDoor.Rt
open Go.RowKit
open Go.Proofs.YtgmkomnoiffapaaGreatDoor.Mu (hv kv OffH OffT)
set_option maxRecDepth 100000

structure OffQ (b : Nat) (n : Q3) : Prop where
  h : OffH b n.s
  k : Mu.Off b n.k.wk
  t : OffT b n.t
/-- All lies in new memory. -/
structure NewQ (B : Nat) (n : Q3) : Prop where
  h : News B n.s
  k : 0 < n.k.wk.n → ∀ x, n.k.wk.a = some x → B ≤ x.block
  u : ∀ j, j < 3 → 0 < (n.t.u j).n → ∀ x, (n.t.u j).a = some x → B ≤ x.block
  o : 0 < n.t.o.n → ∀ x, n.t.o.a = some x → B ≤ x.block
section
variable {w W W' : World} {B b i j : Nat} {n : Q3} {u : Ls.Sl} {s : Hs}
theorem off_ge (h : 0 < u.n → ∀ x, u.a = some x → B ≤ x.block) (hb : b < B) : Mu.Off b u := fun hn x hx => by have := h hn x hx; omega
theorem offh_new (h : News B s) (hb : b < B) : OffH b s := ⟨off_ge h.w hb, off_ge h.p hb, fun j hj => off_ge (h.u j hj) hb, off_ge h.c hb⟩
theorem NewQ.off (h : NewQ B n) (hb : b < B) : OffQ b n := ⟨offh_new h.h hb, off_ge h.k hb, ⟨fun j hj => off_ge (h.u j hj) hb, off_ge h.o hb⟩⟩
theorem NewQ.less (h : NewQ B n) (hb : b ≤ B) : NewQ b n := ⟨⟨fun hn x hx => Nat.le_trans hb (h.h.w hn x hx), fun hn x hx => Nat.le_trans hb (h.h.p hn x hx), fun j hj hn x hx => Nat.le_trans hb (h.h.u j hj hn x hx), fun hn x hx => Nat.le_trans hb (h.h.c hn x hx)⟩, fun hn x hx => Nat.le_trans hb (h.k hn x hx), fun j hj hn x hx => Nat.le_trans hb (h.u j hj hn x hx), fun hn x hx => Nat.le_trans hb (h.o hn x hx)⟩
theorem off_old (h : Hold w n) (hb : w.heap.size ≤ b) : OffQ b n := by
  have lt : ∀ {u : Ls.Sl}, (0 < u.n → ∀ x, u.a = some x → x.block < w.heap.size) → Mu.Off b u := fun h hn x hx => by have := h hn x hx; omega
  have h1 := Mu.offh_old h.h
  exact ⟨⟨lt (Mu.row_lies h.h.words), lt (Mu.prow_lies h.h.pages), fun j hj => lt (Mu.row_lies (h.h.free j hj).1), lt (Mu.brow_lies h.h.cards)⟩, lt (Mu.row_lies h.c), ⟨fun j hj => lt (Mu.row_lies (h.t.c j hj).1), lt (Mu.orow_lies h.t.o)⟩⟩
theorem hold_off (h : Hold w n) (ha : OffQ b n) (hs : ∀ k, ¬ k = b → W.heap[k]? = w.heap[k]?) (hz : W.heap.size = w.heap.size) : Hold W n :=
  ⟨by rw [hz]; exact Mu.hp_off h.h ha.h hs, by rw [hz]; exact Mu.row_keep h.c (fun hn x hx => hs x.block (ha.k hn x hx)), by rw [hz]; exact Mu.th_off h.t ha.t hs⟩
end
def p6 (a b c d e f : Nat) : Nat → Nat
  | 0 => a
  | 1 => b
  | 2 => c
  | 3 => d
  | 4 => e
  | _ => f
def c6 (a b c d e f : List Value) : Nat → List Value
  | 0 => a
  | 1 => b
  | 2 => c
  | 3 => d
  | 4 => e
  | _ => f
structure W6 (w W : World) (p : Nat → Nat) (c : Nat → List Value) (ps : List Q3) : Prop where
  bel : Below w.heap.size w W
  lo : ∀ i, i < 6 → w.heap.size ≤ p i
  inj : ∀ i j, i < 6 → j < 6 → ¬ i = j → ¬ p i = p j
  box : ∀ i, i < 6 → Box W (p i) (c i)
  hold : ∀ n ∈ ps, Hold W n ∧ ∀ i, i < 6 → OffQ (p i) n
section
variable {w W W' : World} {p : Nat → Nat} {c c' : Nat → List Value} {ps : List Q3} {i j : Nat} {n : Q3} {vs : List Value} {v : Value}
theorem W6.next (h : W6 w W p c ps) (hb : Below W.heap.size W W') : W6 w W' p c ps := ⟨h.bel.trans (hb.mono h.bel.size), h.lo, h.inj, fun i hi => (h.box i hi).next hb, fun n hn => ⟨(h.hold n hn).1.next hb, (h.hold n hn).2⟩⟩
theorem W6.at (h : W6 w W p c ps) (n : Q3) (hm : n ∈ ps) : Hold W n := (h.hold n hm).1
theorem W6.over (h : W6 w W p c ps) (hz : Cl.Sz w) : Cl.Sz W := hz.over h.bel hz.pos
theorem W6.held (h : W6 w W p c ps) (hn : Hold W n) (ho : ∀ i, i < 6 → OffQ (p i) n) : W6 w W p c (n :: ps) := ⟨h.bel, h.lo, h.inj, h.box, fun x hx => by
  rcases List.mem_cons.1 hx with rfl | hx
  · exact ⟨hn, ho⟩
  · exact h.hold x hx⟩
theorem W6.lt (h : W6 w W p c ps) (hi : i < 6) : p i < W.heap.size := (h.box i hi).lt
theorem W6.only (h : W6 w W p c (n :: ps)) : W6 w W p c [n] := ⟨h.bel, h.lo, h.inj, h.box, fun x hx => by
  rcases List.mem_singleton.1 hx with rfl
  exact h.hold _ (List.mem_cons.2 (.inl rfl))⟩
/-- One of the boxes is turned. -/
theorem W6.turn (h : W6 w W p c ps) (hi : i < 6) (hB : Box W' (p i) vs) (hbel : Below w.heap.size w W') (hs : ∀ k, ¬ k = p i → W'.heap[k]? = W.heap[k]?) (hz : W'.heap.size = W.heap.size) (hc : ∀ k, k < 6 → c' k = if k = i then vs else c k) : W6 w W' p c' ps := by
  refine ⟨hbel, h.lo, h.inj, fun k hk => ?_, fun n hn => ⟨hold_off (h.hold n hn).1 ((h.hold n hn).2 i hi) hs hz, (h.hold n hn).2⟩⟩
  rw [hc k hk]
  split
  · next e => subst e; exact hB
  · next e => exact (h.box k hk).same (hs _ (h.inj k i hk hi e)) (Nat.le_of_eq hz.symm)
theorem W6.puts (h : W6 w W p c ps) (i : Nat) (hi : i < 6) (vs : List Value) (hl : (c i).length = vs.length) (hc : ∀ k, k < 6 → c' k = if k = i then vs else c k) : W6 w (puts (p i) 0 vs W) p c' ps :=
  h.turn hi (Mu.box_all (h.box i hi) hl) (below_puts _ (h.lo i hi) _ _ _ h.bel) (fun _ hk => puts_other _ _ _ _ hk) (puts_size _ _ _ _) hc
theorem W6.cell (h : W6 w W p c ps) (i : Nat) (hi : i < 6) (j : Nat) (v : Value) (hv : (c i).set j v = vs) (hc : ∀ k, k < 6 → c' k = if k = i then vs else c k) : W6 w (W.setCell ⟨p i, j, none⟩ v) p c' ps := by
  have hb := (h.box i hi).set j v
  rw [hv] at hb
  exact h.turn hi hb (h.bel.setCell (p := ⟨p i, j, none⟩) (h.lo i hi) _) (fun _ hk => Below.heap_setCell _ _ _ _ hk) (by simp [World.setCell]) hc
theorem all6 {P : Nat → Prop} (h : P 0 ∧ P 1 ∧ P 2 ∧ P 3 ∧ P 4 ∧ P 5) : ∀ k, k < 6 → P k := fun k hk => by
  obtain ⟨h0, h1, h2, h3, h4, h5⟩ := h
  match k, hk with
  | 0, _ => exact h0
  | 1, _ => exact h1
  | 2, _ => exact h2
  | 3, _ => exact h3
  | 4, _ => exact h4
  | 5, _ => exact h5
/-- Boxes laid one behind the other. -/
theorem inj6 {b : Nat} : ∀ i j, i < 6 → j < 6 → ¬ i = j → ¬ p6 b (b + 1) (b + 2) (b + 3) (b + 4) (b + 5) i = p6 b (b + 1) (b + 2) (b + 3) (b + 4) (b + 5) j := by
  have e : ∀ i, i < 6 → p6 b (b + 1) (b + 2) (b + 3) (b + 4) (b + 5) i = b + i := all6 ⟨rfl, rfl, rfl, rfl, rfl, rfl⟩
  intro i j hi hj hne
  rw [e i hi, e j hj]
  omega
end
/-- The states of P's answer: where it lies is not told. -/
structure Sim (s : Hs) (k : Sh.Ks) (P : A5) (n : Q3) : Prop where
  len : Lens s n.s
  d : n.d = P.d
  xs : n.xs = P.xs
  k : n.k = Sh.kw k n.k.wk P.ov
  t : n.t = tw P.t n.t.u n.t.o
  o : n.t.o.n = P.t.o.n
def own (n : Q3) : A5 := ⟨n.d, n.xs, n.k.ov, n.t⟩
section
variable {s : Hs} {k : Sh.Ks} {P : A5} {n n' : Q3}
theorem sim_own (n : Q3) : Sim n.s n.k (own n) n := ⟨⟨rfl, rfl, fun _ _ => rfl, rfl⟩, rfl, rfl, rfl, rfl, rfl⟩
theorem Sim.may (h : Sim s k P n) : mayT n.t = mayT P.t := by
  have e := h.t
  have o := h.o
  unfold mayT
  rw [o, e]
  rfl
theorem Sim.ans (h : Sim s k P n) : ansB n.k.ph n.k.ep n.t = ansB k.ph k.ep P.t := by
  rw [h.k, h.t]
  rfl
theorem Sim.ask (h : Sim s k P n) : askB n.k.ph n.k.ep n.t = askB k.ph k.ep P.t := by
  unfold askB
  rw [h.ans, h.may, h.t]
  rfl
theorem Sim.isC (h : Sim s k P n) (a q : Int) : Sh.isC n.s n.d n.k.mj n.k.ep a q = Sh.isC s P.d k.mj k.ep a q := by
  rw [Sh.same_col h.len, h.d, h.k]
  rfl
theorem Sim.sh (h : Sim s k P n) (a : Int) : Sh.shD n.s n.d n.k.mj n.k.ep a = Sh.shD s P.d k.mj k.ep a := by
  have e := h.isC a 1
  unfold Sh.shD
  rw [e, h.d, h.k]
  rfl
theorem Sim.get (h : Sim s k P n) : getV n.t n.t.rt = getV P.t P.t.rt := by rw [h.t]; rfl
theorem Sim.ov (h : Sim s k P n) : n.k.ov = P.ov := by rw [h.k]; rfl
theorem Sim.tt (h : Sim s k P n) (a b c : Int) : te n.t a b c = tw (te P.t a b c) n.t.u n.t.o := by
  have e := h.t
  conv => lhs; rw [e]
  rfl
theorem Sim.root (h : Sim s k P n) : rootT n.t = tw (rootT P.t) n.t.u n.t.o := by
  have e := h.tt
  have hr : n.t.rt = P.t.rt ∧ n.t.ep = P.t.ep ∧ n.t.sg = P.t.sg := by rw [h.t]; exact ⟨rfl, rfl, rfl⟩
  unfold rootT
  rw [hr.1, hr.2.1, hr.2.2]
  split <;> exact e _ _ _
theorem root_o (t : Ts) : (rootT t).o = t.o ∧ (rootT t).u = t.u := ⟨(keep_root t).o, (keep_root t).u⟩
/-- An answer of a state that is P's is P's answer's. -/
theorem Sim.an (h : Sim s k P n) (g : Sim n.s n.k (anS n.s n.k (own n)) n') : Sim s k (anS s k P) n' := by
  have ha := h.ask
  have hk : n.k.ph = k.ph ∧ n.k.ep = k.ep ∧ n.k.mj = k.mj := by rw [h.k]; exact ⟨rfl, rfl, rfl⟩
  have hep : n.t.ep = P.t.ep ∧ n.t.rt = P.t.rt := by rw [h.t]; exact ⟨rfl, rfl⟩
  have key : ∀ (A B : A5), anS n.s n.k (own n) = A → anS s k P = B → A.d = B.d → A.xs = B.xs → A.ov = B.ov → A.t = tw B.t n.t.u n.t.o → B.t.o = P.t.o → Sim s k (anS s k P) n' := by
    intro A B e1 e2 e3 e4 e5 e6 e7
    rw [e1] at g
    rw [e2]
    refine ⟨Sh.lens_trans h.len g.len, g.d.trans e3, g.xs.trans e4, ?_, ?_, ?_⟩
    · rw [← e5]
      have e := g.k
      rw [e]
      show Sh.kw n.k n'.k.wk A.ov = Sh.kw k n'.k.wk A.ov
      rw [h.k]
      rfl
    · have e := g.t
      rw [e6] at e
      conv => lhs; rw [e]
      rfl
    · rw [g.o, e6, e7]
      show n.t.o.n = _
      exact h.o
  by_cases hA : askB k.ph k.ep P.t = true
  · have hA' : askB n.k.ph n.k.ep (own n).t = true := ha.trans hA
    by_cases hE : P.t.ep = k.ep
    · have hE' : (own n).t.ep = n.k.ep := by rw [hk.2.1]; exact hep.1.trans hE
      by_cases hP : k.ph = 2
      · refine key ⟨n.d, n.xs, n.k.ov, te n.t n.t.ep 2 n.t.rt⟩ ⟨P.d, P.xs, P.ov, te P.t P.t.ep 2 P.t.rt⟩ ?_ ?_ h.d h.xs h.ov ?_ rfl
        · unfold anS; rw [if_pos hA', if_pos hE', if_pos (hk.1.trans hP)]; rfl
        · unfold anS; rw [if_pos hA, if_pos hE, if_pos hP]
        · rw [hep.1, hep.2]; exact h.tt _ _ _
      · refine key (rootS n.s n.k (own n)) (rootS s k P) ?_ ?_ ?_ ?_ ?_ ?_ (root_o _).1
        · unfold anS; rw [if_pos hA', if_pos hE', if_neg (by rw [hk.1]; exact hP)]
        · unfold anS; rw [if_pos hA, if_pos hE, if_neg hP]
        · show Sh.shD n.s n.d n.k.mj n.k.ep (getV n.t n.t.rt) = _
          rw [h.sh, h.get]
          rfl
        · show Sh.shX (Sh.isC n.s n.d n.k.mj n.k.ep (getV n.t n.t.rt) 1) n.xs (getV n.t n.t.rt) = _
          rw [h.isC, h.get, h.xs]
          rfl
        · show Sh.shO (Sh.isC n.s n.d n.k.mj n.k.ep (getV n.t n.t.rt) 1) n.xs n.k.ov = _
          rw [h.isC, h.get, h.xs, h.ov]
          rfl
        · exact h.root
    · have hE' : ¬ (own n).t.ep = n.k.ep := by rw [hk.2.1]; exact fun e => hE (hep.1.symm.trans e)
      refine key ⟨n.d, n.xs, n.k.ov, te n.t n.k.ep 1 0⟩ ⟨P.d, P.xs, P.ov, te P.t k.ep 1 0⟩ ?_ ?_ h.d h.xs h.ov ?_ rfl
      · unfold anS; rw [if_pos hA', if_neg hE']; rfl
      · unfold anS; rw [if_pos hA, if_neg hE]
      · rw [hk.2.1]; exact h.tt _ _ _
  · have hA' : ¬ askB n.k.ph n.k.ep (own n).t = true := by show ¬ askB n.k.ph n.k.ep n.t = true; rw [ha]; exact hA
    refine key (own n) P ?_ ?_ h.d h.xs h.ov h.t rfl
    · unfold anS; rw [if_neg hA']
    · unfold anS; rw [if_neg hA]
end
/-- What an answer leaves. -/
def AnOut (w : World) (s : Hs) (k : Sh.Ks) (P : A5) (F : Nat → List Int) (g : Nat → O4) (e : Ending) (w' : World) : Prop :=
  ∃ n : Q3, e = .returned (.tuple #[(.agg #[.slice n.s.w.a n.s.w.n n.s.w.c, .slice n.s.p.a n.s.p.n n.s.p.c, .slice (n.s.u 0).a (n.s.u 0).n (n.s.u 0).c, .slice (n.s.u 1).a (n.s.u 1).n (n.s.u 1).c, .slice (n.s.u 2).a (n.s.u 2).n (n.s.u 2).c, .slice n.s.c.a n.s.c.n n.s.c.c]), (.agg #[.int .i64 n.k.ph, .int .i64 n.k.ep, .bool n.k.mj, .slice n.k.wk.a n.k.wk.n n.k.wk.c, .bool n.k.ov, .int .i64 n.k.pa, .int .i64 n.k.pf, .int .i64 n.k.ps, .int .i64 n.k.pc, .bool n.k.me]), (.agg #[.bool n.t.lv, .int .i64 (n.t.r 0), .int .i64 (n.t.r 1), .int .i64 (n.t.r 2), .int .i64 (n.t.r 3), .slice (n.t.u 0).a (n.t.u 0).n (n.t.u 0).c, .slice (n.t.u 1).a (n.t.u 1).n (n.t.u 1).c, .slice (n.t.u 2).a (n.t.u 2).n (n.t.u 2).c, .int .i64 n.t.ep, .int .i64 n.t.sg, .int .i64 n.t.rt, .slice n.t.o.a n.t.o.n n.t.o.c, .int .i64 n.t.pc, .int .i64 n.t.x, .int .i64 n.t.y])]) ∧ Sim s k P n ∧ n.F = F ∧ n.g = g ∧ Hold w' n ∧ NewQ w.heap.size n ∧ Below w.heap.size w w'
end Go.Proofs.YtgmkomnoiffapaaGreatDoor.Ha
end
section
namespace Go.Proofs.YtgmkomnoiffapaaGreatDoor
open Go.RowKit

section
variable {P : Program} {ops : Array Oper} {Q : Exit → Act → World → Prop} {md : Region.Mode}
theorem wpAny_inv (Inv : (Nat → Bool) → Act → World → Prop) (hdag : ∀ (i : Nat) (o : Oper), ops[i]? = some o → ∀ e ∈ o.after, Region.binds md e = true → e.on < i)
    (hstep : ∀ (i : Nat) (o : Oper) (l : Nat → Bool) (a : Act) (w : World), ops[i]? = some o → Inv l a w → l i = false → (∀ e ∈ o.after, Region.binds md e = true → l e.on = true) → ∀ K : Act → World → Prop, (∀ a' w', Inv (Ls.upd l i true) a' w' → K a' w') → wpOp P ops Q i K a w)
    (hdone : ∀ (l : Nat → Bool) (a : Act) (w : World), Inv l a w → (∀ i, i < ops.size → l i = true) → Q .normal a w) :
    ∀ (fuel : Nat) (listed : Array Bool) (l : Nat → Bool) (a : Act) (w : World), listed.size = ops.size → (∀ j, j < ops.size → listed.getD j true = l j) → Ls.todo ops.size l ≤ fuel → Inv l a w → wpAny P md ops Q fuel listed a w := by
  intro fuel
  induction fuel with
  | zero =>
    intro listed l a w hs hl ht hi
    have hall := Ls.todo_none ops.size (Nat.le_zero.1 ht)
    refine ⟨List.eq_nil_iff_forall_not_mem.2 fun j hj => ?_, hdone l a w hi hall⟩
    obtain ⟨h1, o, ho, _⟩ := mem_ready.1 hj
    have hlt : j < ops.size := (Array.getElem?_eq_some_iff.1 ho).1
    rw [hl j hlt, hall j hlt] at h1
    cases h1
  | succ fuel ih =>
    intro listed l a w hs hl ht hi
    refine ⟨fun hr => hdone l a w hi ?_, fun i hri => ?_⟩
    · intro i
      induction i using Nat.strongRecOn with
      | ind i ihi =>
        intro hlt
        cases hli : l i with
        | true => rfl
        | false =>
          have ho : ops[i]? = some ops[i] := Array.getElem?_eq_getElem hlt
          have : i ∈ Region.ready md ops listed := mem_ready.2 ⟨by rw [hl i hlt]; exact hli, _, ho, fun e he hbd => by
            have hlo := hdag i _ ho e he hbd
            have h1 := ihi e.on hlo (by omega)
            rw [← hl e.on (by omega)] at h1
            rw [Array.getD_eq_getD_getElem?] at h1 ⊢
            rw [Array.getElem?_eq_getElem (by omega)] at h1 ⊢
            exact h1⟩
          rw [hr] at this
          cases this
    · obtain ⟨h1, o, ho, ha⟩ := mem_ready.1 hri
      have hlt : i < ops.size := (Array.getElem?_eq_some_iff.1 ho).1
      rw [hl i hlt] at h1
      refine hstep i o l a w ho hi h1 (fun e he hb => ?_) _ (fun a' w' hi' => ih _ (Ls.upd l i true) a' w' (by simpa using hs) (fun j hj => ?_) ?_ hi')
      · have h2 := ha e he hb
        have hlo := hdag i o ho e he hb
        rw [← hl e.on (by omega)]
        rw [Array.getD_eq_getD_getElem?] at h2 ⊢
        rw [Array.getElem?_eq_getElem (by omega)] at h2 ⊢
        exact h2
      · by_cases e : j = i
        · subst e
          rw [Ls.upd_same, Array.getD_eq_getD_getElem?, Array.getElem?_setIfInBounds_self_of_lt (by omega)]
          rfl
        · rw [Ls.upd_other _ _ e, Array.getD_eq_getD_getElem?, Array.getElem?_setIfInBounds_ne (fun h => e h.symm), ← Array.getD_eq_getD_getElem?]
          exact hl j hj
      · have := Ls.todo_upd h1 ops.size hlt
        omega
theorem wp_region_from {id : Nat} {a : Act} {w : World} (hm : P.follows .mixedOrders = true) (Inv : Act → (Nat → Bool) → Act → World → Prop) (hdag : ∀ (i : Nat) (o : Oper), ops[i]? = some o → ∀ e ∈ o.after, Region.binds .any e = true → e.on < i)
    (hstart : Inv a (fun _ => false) a w.drew)
    (hstep : ∀ (i : Nat) (o : Oper) (l : Nat → Bool) (a' : Act) (w : World), ops[i]? = some o → Inv a l a' w → l i = false → (∀ e ∈ o.after, Region.binds .any e = true → l e.on = true) → ∀ K : Act → World → Prop, (∀ a'' w', Inv a (Ls.upd l i true) a'' w' → K a'' w') → wpOp P ops Q i K a' w)
    (hdone : ∀ (l : Nat → Bool) (a' : Act) (w : World), Inv a l a' w → (∀ i, i < ops.size → l i = true) → Q .normal a' w) : (Code.region id ops true).wp P Q a w :=
  wp_region_any hm (wpAny_inv (Inv a) hdag hstep hdone ops.size _ (fun _ => false) a w.drew (by simp) (fun j hj => by
    rw [Array.getD_eq_getD_getElem?, Array.getElem?_replicate, if_pos hj]
    rfl) (Ls.todo_le _ _) hstart)
/-- The edges that bind lead back. -/
def backAny (ops : Array Oper) : Bool := (List.range ops.size).all fun i => ((ops[i]?).map fun o => o.after.all fun e => !Region.binds .any e || decide (e.on < i)).getD true
theorem dag_any {ops : Array Oper} (h : backAny ops = true) : ∀ (i : Nat) (o : Oper), ops[i]? = some o → ∀ e ∈ o.after, Region.binds .any e = true → e.on < i := by
  intro i o ho e he hb
  have hi : i < ops.size := (Array.getElem?_eq_some_iff.1 ho).1
  have := List.all_eq_true.1 h i (List.mem_range.2 hi)
  rw [ho] at this
  simp only [Option.map_some, Option.getD_some] at this
  have := Array.all_eq_true_iff_forall_mem.1 this e he
  rw [hb] at this
  simpa using this
theorem wpOp_of {i : Nat} {o : Oper} {a : Act} {w : World} {K : Act → World → Prop} (ho : ops[i]? = some o)
    (h : if Region.wanted o (yielded ops a.tmps) = true then o.wp P a w K Q else K (a.put o.dst undef) w) : wpOp P ops Q i K a w := by
  unfold wpOp
  rw [ho]
  simp only
  split
  · next hw => rw [if_pos hw] at h; exact .inl h
  · next hw => rw [if_neg hw] at h; exact h
end
end Go.Proofs.YtgmkomnoiffapaaGreatDoor
end
section
namespace Go.Proofs.YtgmkomnoiffapaaGreatDoor.Mu
open Go.Proofs.YtgmkomnoiffapaaGreatDoor
open Go.RowKit
set_option maxRecDepth 100000

/-- What slots hold: those of what has been carried out. -/
structure Pl (ops : Array Oper) (a0 : Act) (val : Nat → Value) (l : Nat → Bool) (a : Act) : Prop where
  sz : a.tmps.size = a0.tmps.size
  df : a.defers = a0.defers
  out : ∀ j : Nat, (∀ (i : Nat) (o : Oper), ops[i]? = some o → ¬ o.dst = some j) → a.tmps[j]? = a0.tmps[j]?
  got : ∀ (i : Nat) (o : Oper) (s : Nat), ops[i]? = some o → l i = true → o.dst = some s → a.tmps[s]? = some (val i)
/-- Slots within the frame, no two alike; no operation is guarded. -/
def fitB (ops : Array Oper) (n : Nat) : Bool := (List.range ops.size).all fun i => ((ops[i]?).map fun o => o.guard.isNone && (match o.dst with
  | none => true
  | some s => decide (s < n) && (List.range i).all fun j => ((ops[j]?).map fun q => !(q.dst == some s)).getD true)).getD true
theorem fit_one {ops : Array Oper} {n i : Nat} {o : Oper} (h : fitB ops n = true) (ho : ops[i]? = some o) : o.guard = none ∧ ∀ s, o.dst = some s → s < n ∧ ∀ j q, j < i → ops[j]? = some q → ¬ q.dst = some s := by
  have hi : i < ops.size := (Array.getElem?_eq_some_iff.1 ho).1
  have h1 := List.all_eq_true.1 h i (List.mem_range.2 hi)
  rw [ho] at h1
  simp only [Option.map_some, Option.getD_some, Bool.and_eq_true] at h1
  refine ⟨by simpa using h1.1, fun s hs => ?_⟩
  have h2 := h1.2
  rw [hs] at h2
  simp only [Bool.and_eq_true, decide_eq_true_eq] at h2
  refine ⟨h2.1, fun j q hj hq hd => ?_⟩
  have h3 := List.all_eq_true.1 h2.2 j (List.mem_range.2 hj)
  rw [hq] at h3
  simp [hd] at h3
theorem Pl.put {ops : Array Oper} {a0 a : Act} {val val' : Nat → Value} {l : Nat → Bool} {i : Nat} {o : Oper} (hf : fitB ops a0.tmps.size = true) (h : Pl ops a0 val l a) (ho : ops[i]? = some o) (hv : ∀ j, l j = true → val' j = val j) (hl : l i = false) : Pl ops a0 val' (Ls.upd l i true) (a.put o.dst (val' i)) := by
  cases hd : o.dst with
  | none =>
    refine ⟨h.sz, h.df, h.out, fun j q s hq hj hs => ?_⟩
    by_cases e : j = i
    · subst e
      rw [ho] at hq
      cases hq
      rw [hd] at hs
      cases hs
    · rw [Ls.upd_other _ _ e] at hj
      rw [hv j hj]
      exact h.got j q s hq hj hs
  | some s =>
    have h1 := ((fit_one hf ho).2 s hd)
    refine ⟨by simp [Act.put, h.sz], h.df, fun j hj => ?_, fun j q s' hq hj hs => ?_⟩
    · have hne : ¬ s = j := fun e => hj i o ho (by rw [hd, e])
      rw [← h.out j hj]
      simp [Act.put, Array.getElem?_setIfInBounds_ne hne]
    · by_cases e : j = i
      · subst e
        rw [ho] at hq
        cases hq
        rw [hd] at hs
        cases hs
        have : s < a.tmps.size := by rw [h.sz]; exact h1.1
        simp [Act.put, this]
      · rw [Ls.upd_other _ _ e] at hj
        have hne : ¬ s = s' := fun e' => by
          subst e'
          rcases Nat.lt_or_gt_of_ne e with hlt | hlt
          · exact h1.2 j q hlt hq hs
          · exact ((fit_one hf hq).2 s hs).2 i o hlt ho hd
        rw [hv j hj, ← h.got j q s' hq hj hs]
        simp [Act.put, Array.getElem?_setIfInBounds_ne hne]
def noDst (ops : Array Oper) (j : Nat) : Bool := (List.range ops.size).all fun i => ((ops[i]?).map fun o => !(o.dst == some j)).getD true
theorem Pl.keep {ops : Array Oper} {a0 a : Act} {val : Nat → Value} {l : Nat → Bool} (h : Pl ops a0 val l a) {j : Nat} (hj : noDst ops j = true) : a.tmps[j]? = a0.tmps[j]? := h.out j fun i o ho hd => by
  have hi : i < ops.size := (Array.getElem?_eq_some_iff.1 ho).1
  have h1 := List.all_eq_true.1 hj i (List.mem_range.2 hi)
  rw [ho] at h1
  simp [hd] at h1
section
variable {P : Program} {ops : Array Oper} {Q : Exit → Act → World → Prop}
theorem region_plan {X : Type} {id : Nat} {a : Act} {w : World} (hm : P.follows .mixedOrders = true) (hb : backAny ops = true) (hf : fitB ops a.tmps.size = true) (val : X → Nat → Value) (I : X → (Nat → Bool) → World → Prop) (x0 : X) (hstart : I x0 (fun _ => false) w.drew)
    (hstep : ∀ (i : Nat) (o : Oper) (l : Nat → Bool) (a' : Act) (x : X) (W : World), ops[i]? = some o → Pl ops a (val x) l a' → I x l W → l i = false → (∀ e ∈ o.after, Region.binds .any e = true → l e.on = true) → ∀ K : Act → World → Prop,
      (∀ (x' : X) (W' : World), (∀ j, l j = true → val x' j = val x j) → I x' (Ls.upd l i true) W' → K (a'.put o.dst (val x' i)) W') → o.wp P a' W K Q)
    (hdone : ∀ (l : Nat → Bool) (a' : Act) (x : X) (W : World), Pl ops a (val x) l a' → I x l W → (∀ i, i < ops.size → l i = true) → Q .normal a' W) : (Code.region id ops true).wp P Q a w := by
  refine wp_region_from hm (fun a0 l a' W => a0 = a ∧ ∃ x, Pl ops a (val x) l a' ∧ I x l W) (dag_any hb) ⟨rfl, x0, ⟨rfl, rfl, fun _ _ => rfl, fun _ _ _ _ h => by cases h⟩, hstart⟩ ?_ ?_
  · rintro i o l a' W ho ⟨_, x, hP, hI⟩ hl haft K hK
    refine wpOp_of ho ?_
    have hg : Region.wanted o (yielded ops a'.tmps) = true := by
      unfold Region.wanted
      rw [(fit_one hf ho).1]
    rw [if_pos hg]
    exact hstep i o l a' x W ho hP hI hl haft K fun x' W' hv hI' => hK _ _ ⟨rfl, x', hP.put hf ho hv hl, hI'⟩
  · rintro l a' W ⟨_, x, hP, hI⟩ hall
    exact hdone l a' x W hP hI hall
/-- One operation. -/
theorem ev {a : Act} {s : Nat} {v : Value} (h : a.tmps[s]? = some v) : a.eval (.tmp s) = v := by
  show a.tmps.getD s undef = v
  rw [Array.getD_eq_getD_getElem?, h]
  rfl
variable {o : Oper} {a : Act} {W : World} {K : Act → World → Prop}
theorem p_load {x : Operand} {ty : TypeId} {p v : Value} (ho : o.op = .load ty x) (hx : a.eval x = p) (hr : (Instr.loadAt ty p).run P W = .ok v W) (hK : K (a.put o.dst v) W) : o.wp P a W K Q := by
  unfold Oper.wp execOp
  simp only [ho, hx, Sem.run_bind, hr, Result.andThen_ok]
  exact hK
theorem p_store {x y : Operand} {ty : TypeId} {p v : Value} {W' : World} (ho : o.op = .store ty x y) (hx : a.eval x = p) (hy : a.eval y = v) (hr : (Instr.storeAt ty p v).run P W = .ok () W') (hK : K (a.put o.dst undef) W') : o.wp P a W K Q := by
  unfold Oper.wp execOp
  simp only [ho, hx, hy, Sem.run_bind, hr, Result.andThen_ok]
  exact hK
end
end Go.Proofs.YtgmkomnoiffapaaGreatDoor.Mu
end
section
namespace Go.Proofs.YtgmkomnoiffapaaGreatDoor.Sh
open Go.Proofs.YtgmkomnoiffapaaGreatDoor
open Go.RowKit
set_option maxRecDepth 100000

structure Rg (a0 a : Act) (lo hi : Nat) : Prop where
  sz : a.tmps.size = a0.tmps.size
  df : a.defers = a0.defers
  out : ∀ j, (j < lo ∨ hi ≤ j) → a.tmps[j]? = a0.tmps[j]?
theorem Rg.refl (a0 : Act) (lo hi : Nat) : Rg a0 a0 lo hi := ⟨rfl, rfl, fun _ _ => rfl⟩
theorem put_at {a : Act} {i : Nat} {v : Value} (h : i < a.tmps.size) : (a.put (some i) v).tmps[i]? = some v := by
  simp [Act.put, h]
theorem put_ne {a : Act} {i j : Nat} {v : Value} (h : ¬ i = j) : (a.put (some i) v).tmps[j]? = a.tmps[j]? := by
  simp [Act.put, Array.getElem?_setIfInBounds_ne h]
theorem Rg.put {a0 a : Act} {lo hi i : Nat} (h : Rg a0 a lo hi) (v : Value) (h1 : lo ≤ i) (h2 : i < hi) : Rg a0 (a.put (some i) v) lo hi :=
  ⟨by simp [Act.put, h.sz], h.df, fun j hj => (put_ne (by omega)).trans (h.out j hj)⟩
theorem region_gen {P : Program} {c : Code} {Q : Exit → Act → World → Prop} {a : Act} {w : World} (h : ∀ a0, a0 = a → c.wp P Q a0 w) : c.wp P Q a w := h a rfl
theorem act_ext {a b : Act} (h1 : a.defers = b.defers) (h2 : ∀ j : Nat, a.tmps[j]? = b.tmps[j]?) : a = b := by
  obtain ⟨x, y⟩ := a
  obtain ⟨z, u⟩ := b
  dsimp only at h1 h2
  rw [Array.ext_getElem? h2, h1]
end Go.Proofs.YtgmkomnoiffapaaGreatDoor.Sh
end
section
namespace Go.Proofs.YtgmkomnoiffapaaGreatDoor.Ha
open Go.Proofs.YtgmkomnoiffapaaGreatDoor Go.Proofs.YtgmkomnoiffapaaGreatDoor.Rt
open Go.RowKit
open Go.Proofs.YtgmkomnoiffapaaGreatDoor.Mu (hv kv OffH OffT noHs0 noK0 infH infK infT)
set_option maxRecDepth 100000

def sel (c : Bool) (x y : List Value) : List Value := if c = true then x else y
/-- Results, put in their boxes one by one. -/
structure R6 (w : World) (p : Nat → Nat) (n : Q3) (l : Nat → Bool) (W : World) : Prop where
  st : W6 w W p (c6 (hv n.s) (kv n.k) (tv n.t) (sel (l 3) (hv n.s) (hv noHs0)) (sel (l 4) (kv n.k) (kv noK0)) (sel (l 5) (tv n.t) (tv noT))) [n]
section
variable {w W : World} {p : Nat → Nat} {n : Q3} {l : Nat → Bool}
theorem r6_start (h : W6 w W p (c6 (hv n.s) (kv n.k) (tv n.t) (hv noHs0) (kv noK0) (tv noT)) [n]) : R6 w p n (fun _ => false) W := ⟨h⟩
theorem R6.pure (h : R6 w p n l W) {i : Nat} (hi : i < 3) : R6 w p n (Ls.upd l i true) W :=
  ⟨by rw [Ls.upd_other _ _ (show ¬ 3 = i by omega), Ls.upd_other _ _ (show ¬ 4 = i by omega), Ls.upd_other _ _ (show ¬ 5 = i by omega)]; exact h.st⟩
theorem R6.put3 (h : R6 w p n l W) : R6 w p n (Ls.upd l 3 true) (puts (p 3) 0 (hv n.s) W) :=
  ⟨h.st.puts 3 (by decide) (hv n.s) (by show (sel (l 3) (hv n.s) (hv noHs0)).length = _; unfold sel; split <;> rfl) (all6 ⟨rfl, rfl, rfl, rfl, rfl, rfl⟩)⟩
theorem R6.put4 (h : R6 w p n l W) : R6 w p n (Ls.upd l 4 true) (puts (p 4) 0 (kv n.k) W) :=
  ⟨h.st.puts 4 (by decide) (kv n.k) (by show (sel (l 4) (kv n.k) (kv noK0)).length = _; unfold sel; split <;> rfl) (all6 ⟨rfl, rfl, rfl, rfl, rfl, rfl⟩)⟩
theorem R6.put5 (h : R6 w p n l W) : R6 w p n (Ls.upd l 5 true) (puts (p 5) 0 (tv n.t) W) :=
  ⟨h.st.puts 5 (by decide) (tv n.t) (by show (sel (l 5) (tv n.t) (tv noT)).length = _; unfold sel; split <;> rfl) (all6 ⟨rfl, rfl, rfl, rfl, rfl, rfl⟩)⟩
theorem R6.done (h : R6 w p n l W) (h3 : l 3 = true) (h4 : l 4 = true) (h5 : l 5 = true) : W6 w W p (c6 (hv n.s) (kv n.k) (tv n.t) (hv n.s) (kv n.k) (tv n.t)) [n] := by
  have := h.st
  rw [h3, h4, h5] at this
  exact this
theorem sel_h {c : Bool} {x y : Hs} : (sel c (hv x) (hv y)).length = 6 := by unfold sel; split <;> rfl
theorem sel_k {c : Bool} {x y : Sh.Ks} : (sel c (kv x) (kv y)).length = 10 := by unfold sel; split <;> rfl
theorem sel_t {c : Bool} {x y : Ts} : (sel c (tv x) (tv y)).length = 15 := by unfold sel; split <;> rfl
/-- Results that lie in three boxes. -/
theorem res3 {fn : Func} (hf : fn.results = #[.cell 6 28, .cell 7 30, .cell 8 34]) {tm : Array Value} {bh bk bt : Nat} {u : Hs} {q : Sh.Ks} {v : Ts} (h6 : tm[6]? = some (.pointer (some ⟨bh, 0, none⟩))) (h7 : tm[7]? = some (.pointer (some ⟨bk, 0, none⟩))) (h8 : tm[8]? = some (.pointer (some ⟨bt, 0, none⟩)))
    (xh : Box W bh (hv u)) (xk : Box W bk (kv q)) (xt : Box W bt (tv v)) : (results fn tm).run Tryz.prog W = .ok (.tuple #[(.agg #[.slice u.w.a u.w.n u.w.c, .slice u.p.a u.p.n u.p.c, .slice (u.u 0).a (u.u 0).n (u.u 0).c, .slice (u.u 1).a (u.u 1).n (u.u 1).c, .slice (u.u 2).a (u.u 2).n (u.u 2).c, .slice u.c.a u.c.n u.c.c]), (.agg #[.int .i64 q.ph, .int .i64 q.ep, .bool q.mj, .slice q.wk.a q.wk.n q.wk.c, .bool q.ov, .int .i64 q.pa, .int .i64 q.pf, .int .i64 q.ps, .int .i64 q.pc, .bool q.me]), (.agg #[.bool v.lv, .int .i64 (v.r 0), .int .i64 (v.r 1), .int .i64 (v.r 2), .int .i64 (v.r 3), .slice (v.u 0).a (v.u 0).n (v.u 0).c, .slice (v.u 1).a (v.u 1).n (v.u 1).c, .slice (v.u 2).a (v.u 2).n (v.u 2).c, .int .i64 v.ep, .int .i64 v.sg, .int .i64 v.rt, .slice v.o.a v.o.n v.o.c, .int .i64 v.pc, .int .i64 v.x, .int .i64 v.y])]) W := by
  have l1 := run_loadVar_mid (P := Tryz.prog) W bh 0 28 (hv u) _ (fun j v hj => by rw [Nat.zero_add]; exact xh.cel j v hj) Tryz.underlying28 rfl infH
  have l2 := run_loadVar_mid (P := Tryz.prog) W bk 0 30 (kv q) _ (fun j v hj => by rw [Nat.zero_add]; exact xk.cel j v hj) Tryz.underlying30 rfl infK
  have l3 := run_loadVar_mid (P := Tryz.prog) W bt 0 34 (tv v) _ (fun j v hj => by rw [Nat.zero_add]; exact xt.cel j v hj) Tryz.underlying34 rfl infT
  simp [results, hf, h6, h7, h8, asAddr, l1, l2, l3]
  exact ⟨rfl, rfl, rfl⟩
end
/-- Copies: where they lie. -/
structure Gx where
  s : Hs
  v : Ls.Sl
  u : Nat → Ls.Sl
  o : Ls.Sl
structure J9 (w : World) (n : Q3) (x : Gx) (l : Nat → Bool) (W : World) : Prop where
  st : W6 w W (p6 w.heap.size (w.heap.size + 1) (w.heap.size + 2) (w.heap.size + 3) (w.heap.size + 4) (w.heap.size + 5)) (c6 (sel (l 6) (hv x.s) (hv n.s)) (sel (l 7) (kv (Sh.kw n.k x.v n.k.ov)) (kv n.k)) (sel (l 8) (tv (tw n.t x.u x.o)) (tv n.t)) (hv noHs0) (kv noK0) (tv noT)) []
  k1 : l 1 = true → l 0 = true
  k3 : l 3 = true → l 2 = true
  k5 : l 5 = true → l 4 = true
  k6 : l 6 = true → l 1 = true
  k7 : l 7 = true → l 3 = true
  k8 : l 8 = true → l 5 = true
  h1 : l 1 = true → Hp W W.heap.size x.s n.d ∧ Lens n.s x.s ∧ News (w.heap.size + 6) x.s
  h3 : l 3 = true → Row W W.heap.size x.v.a x.v.n n.xs ∧ (0 < x.v.n → ∀ y, x.v.a = some y → w.heap.size + 6 ≤ y.block)
  h5 : l 5 = true → Th W W.heap.size (tw n.t x.u x.o) n.F n.g ∧ x.o.n = n.t.o.n ∧ (∀ j, j < 3 → ∀ y, (x.u j).a = some y → w.heap.size + 6 ≤ y.block) ∧ (0 < x.o.n → ∀ y, x.o.a = some y → w.heap.size + 6 ≤ y.block)
section
variable {w W W' : World} {n : Q3} {x : Gx} {l : Nat → Bool} {s' : Hs} {v' o' : Ls.Sl} {u' : Nat → Ls.Sl}
theorem J9.next (h : J9 w n x l W) (hb : Below W.heap.size W W') : J9 w n x l W' := ⟨h.st.next hb, h.k1, h.k3, h.k5, h.k6, h.k7, h.k8, fun e => ⟨(h.h1 e).1.next hb, (h.h1 e).2⟩, fun e => ⟨((h.h3 e).1.below hb).more hb.size, (h.h3 e).2⟩, fun e => ⟨(h.h5 e).1.next hb, (h.h5 e).2⟩⟩
theorem J9.size (h : J9 w n x l W) : w.heap.size + 6 ≤ W.heap.size := by have : w.heap.size + 5 < W.heap.size := h.st.lt (i := 5) (by decide); omega
theorem j9_start (h : W6 w W (p6 w.heap.size (w.heap.size + 1) (w.heap.size + 2) (w.heap.size + 3) (w.heap.size + 4) (w.heap.size + 5)) (c6 (hv n.s) (kv n.k) (tv n.t) (hv noHs0) (kv noK0) (tv noT)) []) (x : Gx) : J9 w n x (fun _ => false) W :=
  ⟨h, fun e => (by cases e), fun e => (by cases e), fun e => (by cases e), fun e => (by cases e), fun e => (by cases e), fun e => (by cases e), fun e => (by cases e), fun e => (by cases e), fun e => (by cases e)⟩
theorem nt {b : Bool} (h : b = true → False) : b = false := by cases b; rfl; exact absurd rfl h
theorem J9.pure (h : J9 w n x l W) {i : Nat} (hi : i = 0 ∨ i = 2 ∨ i = 4) : J9 w n x (Ls.upd l i true) W := by
  have q : ∀ j, ¬ (j = 0 ∨ j = 2 ∨ j = 4) → Ls.upd l i true j = l j := fun j hj => Ls.upd_other _ _ (by omega)
  have u : ∀ j, l j = true → Ls.upd l i true j = true := fun j hj => by unfold Ls.upd; split; rfl; exact hj
  exact ⟨by rw [q 6 (by omega), q 7 (by omega), q 8 (by omega)]; exact h.st, by rw [q 1 (by omega)]; exact fun e => u _ (h.k1 e), by rw [q 3 (by omega)]; exact fun e => u _ (h.k3 e), by rw [q 5 (by omega)]; exact fun e => u _ (h.k5 e), by rw [q 6 (by omega), q 1 (by omega)]; exact h.k6, by rw [q 7 (by omega), q 3 (by omega)]; exact h.k7, by rw [q 8 (by omega), q 5 (by omega)]; exact h.k8, by rw [q 1 (by omega)]; exact h.h1, by rw [q 3 (by omega)]; exact h.h3, by rw [q 5 (by omega)]; exact h.h5⟩
theorem J9.set1 (h : J9 w n x l W) (hl : l 1 = false) (h0 : l 0 = true) (hp : Hp W W.heap.size s' n.d) (hL : Lens n.s s') (hn : News (w.heap.size + 6) s') : J9 w n ⟨s', x.v, x.u, x.o⟩ (Ls.upd l 1 true) W := by
  have q : ∀ j, ¬ j = 1 → Ls.upd l 1 true j = l j := fun j hj => Ls.upd_other _ _ hj
  have e6 : l 6 = false := nt fun e => by rw [h.k6 e] at hl; cases hl
  exact ⟨by rw [q 6 (by decide), q 7 (by decide), q 8 (by decide), e6]; have := h.st; rw [e6] at this; exact this, fun _ => by rw [q 0 (by decide)]; exact h0, by rw [q 3 (by decide), q 2 (by decide)]; exact h.k3, by rw [q 5 (by decide), q 4 (by decide)]; exact h.k5, by rw [q 6 (by decide), e6]; exact fun e => (by cases e), by rw [q 7 (by decide), q 3 (by decide)]; exact h.k7, by rw [q 8 (by decide), q 5 (by decide)]; exact h.k8, fun _ => ⟨hp, hL, hn⟩, by rw [q 3 (by decide)]; exact h.h3, by rw [q 5 (by decide)]; exact h.h5⟩
theorem J9.set3 (h : J9 w n x l W) (hl : l 3 = false) (h0 : l 2 = true) (hp : Row W W.heap.size v'.a v'.n n.xs) (hn : 0 < v'.n → ∀ y, v'.a = some y → w.heap.size + 6 ≤ y.block) : J9 w n ⟨x.s, v', x.u, x.o⟩ (Ls.upd l 3 true) W := by
  have q : ∀ j, ¬ j = 3 → Ls.upd l 3 true j = l j := fun j hj => Ls.upd_other _ _ hj
  have e7 : l 7 = false := nt fun e => by rw [h.k7 e] at hl; cases hl
  exact ⟨by rw [q 6 (by decide), q 7 (by decide), q 8 (by decide), e7]; have := h.st; rw [e7] at this; exact this, by rw [q 1 (by decide), q 0 (by decide)]; exact h.k1, fun _ => by rw [q 2 (by decide)]; exact h0, by rw [q 5 (by decide), q 4 (by decide)]; exact h.k5, by rw [q 6 (by decide), q 1 (by decide)]; exact h.k6, by rw [q 7 (by decide), e7]; exact fun e => (by cases e), by rw [q 8 (by decide), q 5 (by decide)]; exact h.k8, by rw [q 1 (by decide)]; exact h.h1, fun _ => ⟨hp, hn⟩, by rw [q 5 (by decide)]; exact h.h5⟩
theorem J9.set5 (h : J9 w n x l W) (hl : l 5 = false) (h0 : l 4 = true) (hp : Th W W.heap.size (tw n.t u' o') n.F n.g) (ho : o'.n = n.t.o.n) (hu : ∀ j, j < 3 → ∀ y, (u' j).a = some y → w.heap.size + 6 ≤ y.block) (hn : 0 < o'.n → ∀ y, o'.a = some y → w.heap.size + 6 ≤ y.block) : J9 w n ⟨x.s, x.v, u', o'⟩ (Ls.upd l 5 true) W := by
  have q : ∀ j, ¬ j = 5 → Ls.upd l 5 true j = l j := fun j hj => Ls.upd_other _ _ hj
  have e8 : l 8 = false := nt fun e => by rw [h.k8 e] at hl; cases hl
  exact ⟨by rw [q 6 (by decide), q 7 (by decide), q 8 (by decide), e8]; have := h.st; rw [e8] at this; exact this, by rw [q 1 (by decide), q 0 (by decide)]; exact h.k1, by rw [q 3 (by decide), q 2 (by decide)]; exact h.k3, fun _ => by rw [q 4 (by decide)]; exact h0, by rw [q 6 (by decide), q 1 (by decide)]; exact h.k6, by rw [q 7 (by decide), q 3 (by decide)]; exact h.k7, by rw [q 8 (by decide), e8]; exact fun e => (by cases e), by rw [q 1 (by decide)]; exact h.h1, by rw [q 3 (by decide)]; exact h.h3, fun _ => ⟨hp, ho, hu, hn⟩⟩
/-- A copy is put in its box. -/
theorem J9.put (h : J9 w n x l W) {i : Nat} (hi : i = 6 ∨ i = 7 ∨ i = 8) {b : Nat} (hb : b < w.heap.size + 6) {vs : List Value} {c' : Nat → List Value} (e6 : i = 6 → l 1 = true) (e7 : i = 7 → l 3 = true) (e8 : i = 8 → l 5 = true)
    (hst : W6 w (puts b 0 vs W) (p6 w.heap.size (w.heap.size + 1) (w.heap.size + 2) (w.heap.size + 3) (w.heap.size + 4) (w.heap.size + 5)) c' [])
    (hc : c' = c6 (sel (Ls.upd l i true 6) (hv x.s) (hv n.s)) (sel (Ls.upd l i true 7) (kv (Sh.kw n.k x.v n.k.ov)) (kv n.k)) (sel (Ls.upd l i true 8) (tv (tw n.t x.u x.o)) (tv n.t)) (hv noHs0) (kv noK0) (tv noT)) : J9 w n x (Ls.upd l i true) (puts b 0 vs W) := by
  have q : ∀ j, j < 6 → Ls.upd l i true j = l j := fun j hj => Ls.upd_other _ _ (by omega)
  have u : ∀ j, Ls.upd l i true j = true → j = i ∨ l j = true := fun j hj => by
    by_cases e : j = i
    · exact .inl e
    · rw [Ls.upd_other _ _ e] at hj; exact .inr hj
  have hs : ∀ k, ¬ k = b → (puts b 0 vs W).heap[k]? = W.heap[k]? := fun _ hk => puts_other _ _ _ _ hk
  have hz : (puts b 0 vs W).heap.size = W.heap.size := puts_size _ _ _ _
  refine ⟨by rw [← hc]; exact hst, by rw [q 1 (by omega), q 0 (by omega)]; exact h.k1, by rw [q 3 (by omega), q 2 (by omega)]; exact h.k3, by rw [q 5 (by omega), q 4 (by omega)]; exact h.k5, fun e => ?_, fun e => ?_, fun e => ?_, fun e => ?_, fun e => ?_, fun e => ?_⟩
  · rw [q 1 (by omega)]
    rcases u 6 e with e | e
    · exact e6 e.symm
    · exact h.k6 e
  · rw [q 3 (by omega)]
    rcases u 7 e with e | e
    · exact e7 e.symm
    · exact h.k7 e
  · rw [q 5 (by omega)]
    rcases u 8 e with e | e
    · exact e8 e.symm
    · exact h.k8 e
  · rw [q 1 (by omega)] at e
    obtain ⟨a1, a2, a3⟩ := h.h1 e
    exact ⟨by rw [hz]; exact Mu.hp_off a1 (offh_new a3 hb) hs, a2, a3⟩
  · rw [q 3 (by omega)] at e
    obtain ⟨a1, a2⟩ := h.h3 e
    exact ⟨by rw [hz]; exact Mu.row_keep a1 (fun h0 y hy => hs y.block (by have := a2 h0 y hy; omega)), a2⟩
  · rw [q 5 (by omega)] at e
    obtain ⟨a1, a2, a3, a4⟩ := h.h5 e
    exact ⟨by rw [hz]; exact Mu.th_off a1 ⟨fun j hj _ y hy => by have := a3 j hj y hy; omega, fun h0 y hy => by have := a4 h0 y hy; omega⟩ hs, a2, a3, a4⟩
theorem J9.put6 (h : J9 w n x l W) (h1 : l 1 = true) : J9 w n x (Ls.upd l 6 true) (puts w.heap.size 0 (hv x.s) W) :=
  h.put (.inl rfl) (by omega) (fun _ => h1) (fun e => by cases e) (fun e => by cases e) (h.st.puts 0 (by decide) (hv x.s) sel_h (all6 ⟨rfl, rfl, rfl, rfl, rfl, rfl⟩)) rfl
theorem J9.put7 (h : J9 w n x l W) (h1 : l 3 = true) : J9 w n x (Ls.upd l 7 true) (puts (w.heap.size + 1) 0 (kv (Sh.kw n.k x.v n.k.ov)) W) :=
  h.put (.inr (.inl rfl)) (by omega) (fun e => by cases e) (fun _ => h1) (fun e => by cases e) (h.st.puts 1 (by decide) (kv (Sh.kw n.k x.v n.k.ov)) sel_k (all6 ⟨rfl, rfl, rfl, rfl, rfl, rfl⟩)) rfl
theorem J9.put8 (h : J9 w n x l W) (h1 : l 5 = true) : J9 w n x (Ls.upd l 8 true) (puts (w.heap.size + 2) 0 (tv (tw n.t x.u x.o)) W) :=
  h.put (.inr (.inr rfl)) (by omega) (fun e => by cases e) (fun e => by cases e) (fun _ => h1) (h.st.puts 2 (by decide) (tv (tw n.t x.u x.o)) sel_t (all6 ⟨rfl, rfl, rfl, rfl, rfl, rfl⟩)) rfl
/-- What stands when all has been copied. -/
def gQ (n : Q3) (x : Gx) : Q3 := ⟨x.s, Sh.kw n.k x.v n.k.ov, tw n.t x.u x.o, n.d, n.xs, n.F, n.g⟩
theorem J9.done (h : J9 w n x l W) (hall : ∀ i, i < 9 → l i = true) : (W6 w W (p6 w.heap.size (w.heap.size + 1) (w.heap.size + 2) (w.heap.size + 3) (w.heap.size + 4) (w.heap.size + 5)) (c6 (hv (gQ n x).s) (kv (gQ n x).k) (tv (gQ n x).t) (hv noHs0) (kv noK0) (tv noT)) [gQ n x]) ∧ NewQ (w.heap.size + 6) (gQ n x) ∧ Sim n.s n.k (own n) (gQ n x) := by
  have hst := h.st
  rw [hall 6 (by decide), hall 7 (by decide), hall 8 (by decide)] at hst
  obtain ⟨a1, a2, a3⟩ := h.h1 (hall 1 (by decide))
  obtain ⟨b1, b2⟩ := h.h3 (hall 3 (by decide))
  obtain ⟨d1, d2, d3, d4⟩ := h.h5 (hall 5 (by decide))
  have nw : NewQ (w.heap.size + 6) (gQ n x) := ⟨a3, b2, fun j hj _ y hy => d3 j hj y hy, d4⟩
  refine ⟨hst.held (show Hold W (gQ n x) from ⟨a1, b1, d1⟩) (all6 ⟨nw.off ?_, nw.off ?_, nw.off ?_, nw.off ?_, nw.off ?_, nw.off ?_⟩), nw, ⟨a2, rfl, rfl, rfl, rfl, d2⟩⟩ <;> simp only [p6] <;> omega
end
end Go.Proofs.YtgmkomnoiffapaaGreatDoor.Ha
end
section
namespace Go.Proofs.YtgmkomnoiffapaaGreatDoor.Sh
open Go.Proofs.YtgmkomnoiffapaaGreatDoor
open Go.RowKit
set_option maxRecDepth 100000

/-- The boxes of a walk through Black. -/
structure Bw (w W : World) (s : Hs) (d : Hd_) (k : Ks) (xs : List Int) : Prop where
  bel : Below w.heap.size w W
  hb : Box6 W w.heap.size s
  kb : CBox W (w.heap.size + 1) k
  rb : T6 W (w.heap.size + 2)
  hp0 : Hp w w.heap.size s d
  wr0 : WRow w w.heap.size k xs
section
variable {w W W' w3 : World} {s t : Hs} {d d' : Hd_} {k : Ks} {xs ys : List Int} {b : Nat}
theorem Bw.hp (h : Bw w W s d k xs) : Hp W W.heap.size s d := h.hp0.next h.bel
theorem Bw.wr (h : Bw w W s d k xs) : WRow W W.heap.size k xs := h.wr0.next h.bel
theorem Bw.same (h : Bw w W s d k xs) (hb : Below (w.heap.size + 3) W W') : Bw w W' s d k xs := by
  have hs : ∀ g, g < w.heap.size + 3 → W'.heap[g]? = W.heap[g]? := fun g hg => hb.block g hg
  exact ⟨h.bel.trans (hb.mono (by omega)), h.hb.same (hs _ (by omega)) hb.size, h.kb.same (hs _ (by omega)) hb.size, h.rb.same (hs _ (by omega)) hb.size, h.hp0, h.wr0⟩
theorem Bw.next (h : Bw w W s d k xs) (hb : Below W.heap.size W W') : Bw w W' s d k xs := h.same (hb.mono (by have := h.rb.lt; omega))
end
section
variable (s : Hs) (d : Hd_) (k : Ks) (xs : List Int) (a : Int) (w : World)
theorem shade_any (hn : xs.length ≤ 1000000) (hp : Hp w w.heap.size s d) (hk : WRow w w.heap.size k xs) (hz : Cl.Sz w) (hf : Fine s d) : Calls Tryz.prog 106 #[(.agg #[.slice s.w.a s.w.n s.w.c, .slice s.p.a s.p.n s.p.c, .slice (s.u 0).a (s.u 0).n (s.u 0).c, .slice (s.u 1).a (s.u 1).n (s.u 1).c, .slice (s.u 2).a (s.u 2).n (s.u 2).c, .slice s.c.a s.c.n s.c.c]), (.agg #[.int .i64 k.ph, .int .i64 k.ep, .bool k.mj, .slice k.wk.a k.wk.n k.wk.c, .bool k.ov, .int .i64 k.pa, .int .i64 k.pf, .int .i64 k.ps, .int .i64 k.pc, .bool k.me]), .int .i64 a] w (ShOut w s k (shD s d k.mj k.ep a) (shO (isC s d k.mj k.ep a 1) xs k.ov) (shX (isC s d k.mj k.ep a 1) xs a)) := by
  have hF := fun (W : World) (h : Sw w W s d k xs) => find_any s d k xs a 1 W h.hp h.wr (hz.over h.bel hz.pos) hf
  unfold shD
  by_cases hc : isC s d k.mj k.ep a 1 = true
  · obtain ⟨h1, h2, h3⟩ := isC_iff.1 hc
    have ho := obj_of h2
    have hv : findV s d k.mj k.ep a 1 = headOf (wd d a) := if_pos hc
    rw [if_pos hc, hc]
    rw [hv, headOf_yes ho.word, decide_eq_true ho.odd, hc] at hF
    exact shade_yes s d k xs a w _ _ _ _ _ _ _ _ rfl rfl hn hp hk hF fun W h => set_okn _ _ _ _ _ _ _ _ _ h.hp (hz.over h.bel hz.pos) hf h2 _ _ _ _ ho.val ho.may (ho.fits false h1.1 h1.2)
  · have hc' : isC s d k.mj k.ep a 1 = false := by simpa using hc
    obtain ⟨z0, z1, z2, z3, z4, z5, hv⟩ := find_form s d k.mj k.ep a 1
    rw [if_neg hc, hc', show shO false xs k.ov = k.ov by simp [shO], show shX false xs a = xs from if_neg (by simp)]
    rw [hv, hc'] at hF
    exact shade_no s d k xs a w _ _ _ _ _ _ hn hp hk hF fun W h => fresh_all s d W h.hp hf
end
end Go.Proofs.YtgmkomnoiffapaaGreatDoor.Sh
end
section
namespace Go.Proofs.YtgmkomnoiffapaaGreatDoor.Ha
open Go.Proofs.YtgmkomnoiffapaaGreatDoor Go.Proofs.YtgmkomnoiffapaaGreatDoor.Rt
open Go.RowKit
open Go.Proofs.YtgmkomnoiffapaaGreatDoor.Mu (hv kv w_load w_store w_loadg ldHb ldKb ldTb stHb stKb stTb st_int ld_int p_load p_store ev region_plan noHs0 noK0)
set_option maxRecDepth 100000

theorem w6_start {w W : World} (n : Q3) {t1 t2 t3 t4 t5 t6 : TypeId} (h : W = (((((w.alloc (.cells (hv n.s).toArray t1)).alloc (.cells (kv n.k).toArray t2)).alloc (.cells (tv n.t).toArray t3)).alloc (.cells (hv noHs0).toArray t4)).alloc (.cells (kv noK0).toArray t5)).alloc (.cells (tv noT).toArray t6)) :
    W6 w W (p6 w.heap.size (w.heap.size + 1) (w.heap.size + 2) (w.heap.size + 3) (w.heap.size + 4) (w.heap.size + 5)) (c6 (hv n.s) (kv n.k) (tv n.t) (hv noHs0) (kv noK0) (tv noT)) [] ∧ (Hold w n → W6 w W (p6 w.heap.size (w.heap.size + 1) (w.heap.size + 2) (w.heap.size + 3) (w.heap.size + 4) (w.heap.size + 5)) (c6 (hv n.s) (kv n.k) (tv n.t) (hv noHs0) (kv noK0) (tv noT)) [n]) := by
  have l := ((((((lb_none w).lay (hv n.s) t1).lay (kv n.k) t2).lay (tv n.t) t3).lay (hv noHs0) t4).lay (kv noK0) t5).lay (tv noT) t6
  rw [World.size_alloc, World.size_alloc, World.size_alloc, World.size_alloc, World.size_alloc, ← h] at l
  have a : W6 w W (p6 w.heap.size (w.heap.size + 1) (w.heap.size + 2) (w.heap.size + 3) (w.heap.size + 4) (w.heap.size + 5)) (c6 (hv n.s) (kv n.k) (tv n.t) (hv noHs0) (kv noK0) (tv noT)) [] := ⟨l.bel, all6 ⟨Nat.le_refl _, Nat.le_add_right _ _, Nat.le_add_right _ _, Nat.le_add_right _ _, Nat.le_add_right _ _, Nat.le_add_right _ _⟩, inj6, all6 ⟨l.bx (w.heap.size) (hv n.s) (by simp), l.bx (w.heap.size + 1) (kv n.k) (by simp), l.bx (w.heap.size + 1 + 1) (tv n.t) (by simp), l.bx (w.heap.size + 1 + 1 + 1) (hv noHs0) (by simp), l.bx (w.heap.size + 1 + 1 + 1 + 1) (kv noK0) (by simp), l.bx (w.heap.size + 1 + 1 + 1 + 1 + 1) (tv noT) (by simp)⟩, fun x hx => (by cases hx)⟩
  exact ⟨a, fun hh => a.held (hh.next l.bel) fun i hi => off_old hh (a.lo i hi)⟩
/-- What shadeRoot is handed. -/
structure Pre (w : World) (n : Q3) : Prop where
  hold : Hold w n
  sz : Cl.Sz w
  fine : Fine n.s n.d
  x : n.xs.length ≤ 999000
/-- The state once a register is shaded. -/
def shQ (n : Q3) (a : Int) (s' : Hs) (v : Ls.Sl) : Q3 := ⟨s', Sh.kw n.k v (Sh.shO (Sh.isC n.s n.d n.k.mj n.k.ep a 1) n.xs n.k.ov), n.t, Sh.shD n.s n.d n.k.mj n.k.ep a, Sh.shX (Sh.isC n.s n.d n.k.mj n.k.ep a 1) n.xs a, n.F, n.g⟩
def thQ (n : Q3) (t : Ts) : Q3 := ⟨n.s, n.k, t, n.d, n.xs, n.F, n.g⟩
/-- What shadeRoot leaves. -/
def RoOut (w : World) (n : Q3) (e : Ending) (w' : World) : Prop :=
  ∃ (s' : Hs) (v : Ls.Sl) (m : Q3), e = .returned (.tuple #[(.agg #[.slice m.s.w.a m.s.w.n m.s.w.c, .slice m.s.p.a m.s.p.n m.s.p.c, .slice (m.s.u 0).a (m.s.u 0).n (m.s.u 0).c, .slice (m.s.u 1).a (m.s.u 1).n (m.s.u 1).c, .slice (m.s.u 2).a (m.s.u 2).n (m.s.u 2).c, .slice m.s.c.a m.s.c.n m.s.c.c]), (.agg #[.int .i64 m.k.ph, .int .i64 m.k.ep, .bool m.k.mj, .slice m.k.wk.a m.k.wk.n m.k.wk.c, .bool m.k.ov, .int .i64 m.k.pa, .int .i64 m.k.pf, .int .i64 m.k.ps, .int .i64 m.k.pc, .bool m.k.me]), (.agg #[.bool m.t.lv, .int .i64 (m.t.r 0), .int .i64 (m.t.r 1), .int .i64 (m.t.r 2), .int .i64 (m.t.r 3), .slice (m.t.u 0).a (m.t.u 0).n (m.t.u 0).c, .slice (m.t.u 1).a (m.t.u 1).n (m.t.u 1).c, .slice (m.t.u 2).a (m.t.u 2).n (m.t.u 2).c, .int .i64 m.t.ep, .int .i64 m.t.sg, .int .i64 m.t.rt, .slice m.t.o.a m.t.o.n m.t.o.c, .int .i64 m.t.pc, .int .i64 m.t.x, .int .i64 m.t.y])]) ∧ m = thQ (shQ n (getV n.t n.t.rt) s' v) (rootT n.t) ∧ Lens n.s s' ∧ Hold w' m ∧ News w.heap.size s' ∧ (0 < v.n → ∀ x, v.a = some x → w.heap.size ≤ x.block) ∧ Below w.heap.size w w'
theorem own_lie {w w' : World} {v : Ls.Sl} {xs : List Int} (h : Ls.Alling w w' v xs) : 0 < v.n → ∀ x, v.a = some x → w.heap.size ≤ x.block := fun _ x hx => (h.own.lt x.block (by rw [Ls.ownBlock_slice, hx]; rfl)).1
section
variable {w W W' : World} {n : Q3} {p : Nat → Nat} {c : Nat → List Value} {a : Int} {s' : Hs} {v : Ls.Sl} {t : Ts}
/-- Behind Shade. -/
theorem sh_next (h : W6 w W p c [n]) (hp : Hp W' W'.heap.size s' (Sh.shD n.s n.d n.k.mj n.k.ep a)) (hn : News W.heap.size s') (ha : Ls.Alling W W' v (Sh.shX (Sh.isC n.s n.d n.k.mj n.k.ep a 1) n.xs a)) : W6 w W' p c [shQ n a s' v] := by
  have hb := ha.bel
  have nx := h.next hb
  refine W6.held ⟨nx.bel, nx.lo, nx.inj, nx.box, fun x hx => (by cases hx)⟩ ⟨hp, Mu.all_row9 ha.own, (nx.at n (by simp)).t⟩ fun i hi => ?_
  have ho := (h.hold n (by simp)).2 i hi
  exact ⟨offh_new hn (h.lt hi), off_ge (own_lie ha) (h.lt hi), ho.t⟩
theorem sh_new (h : W6 w W p c [n]) (hl : Lens n.s s') (hn : News W.heap.size s') (ha : Ls.Alling W W' v (Sh.shX (Sh.isC n.s n.d n.k.mj n.k.ep a 1) n.xs a)) : Lens n.s s' ∧ News w.heap.size s' ∧ (0 < v.n → ∀ x, v.a = some x → w.heap.size ≤ x.block) := by
  have hs := h.bel.size
  exact ⟨hl, ⟨fun h0 y hy => Nat.le_trans hs (hn.w h0 y hy), fun h0 y hy => Nat.le_trans hs (hn.p h0 y hy), fun j hj h0 y hy => Nat.le_trans hs (hn.u j hj h0 y hy), fun h0 y hy => Nat.le_trans hs (hn.c h0 y hy)⟩, fun h0 y hy => Nat.le_trans hs (own_lie ha h0 y hy)⟩
/-- .. with another thread, whose rows lie where they lay. -/
theorem th_next (h : W6 w W p c [n]) (hk : Keep n.t t) : W6 w W p c [thQ n t] := by
  obtain ⟨hh, ho⟩ := h.hold n (by simp)
  refine W6.held ⟨h.bel, h.lo, h.inj, h.box, fun x hx => (by cases hx)⟩ ⟨hh.h, hh.c, ⟨?_, ?_, ?_⟩⟩ fun i hi => ⟨(ho i hi).h, (ho i hi).k, ⟨?_, ?_⟩⟩
  · show Ls.L3 W W.heap.size t.u n.F; rw [hk.u]; exact hh.t.c
  · show ORow W W.heap.size t.o.a t.o.n n.g; rw [hk.o]; exact hh.t.o
  · show t.o.n ≤ t.o.c; rw [hk.o]; exact hh.t.k
  · show ∀ j, j < 3 → Mu.Off _ (t.u j); rw [hk.u]; exact (ho i hi).t.u
  · show Mu.Off _ t.o; rw [hk.o]; exact (ho i hi).t.o
end
section
variable {w W W0 : World} {p : Nat → Nat} {c c' : Nat → List Value} {ps : List Q3} {ops : Array Oper} {rest : List Oper} {o : Oper} {a : Act} {Q : Exit → Act → World → Prop}
/-- A box is filled anew; a cell of one is. -/
theorem w6_putH {X Y : Operand} (h : W6 w W0 p c ps) (i : Nat) (hi : i < 6) (x : Hs) (hl : (c i).length = 6) (hc : ∀ k, k < 6 → c' k = if k = i then hv x else c k) (hw : W = W0) (hgd : o.guard = none) (ho : o.op = .store 28 X Y) (hx : a.eval X = .pointer (some ⟨p i, 0, none⟩)) (hy : a.eval Y = (.agg #[.slice x.w.a x.w.n x.w.c, .slice x.p.a x.p.n x.p.c, .slice (x.u 0).a (x.u 0).n (x.u 0).c, .slice (x.u 1).a (x.u 1).n (x.u 1).c, .slice (x.u 2).a (x.u 2).n (x.u 2).c, .slice x.c.a x.c.n x.c.c])) (hK : ∀ W', W6 w W' p c' ps → wpList Tryz.prog ops Q rest (a.put o.dst undef) W') : wpList Tryz.prog ops Q (o :: rest) a W :=
  w_store (stHb (h.box i hi) hl x) hw hgd ho hx hy (hK _ (h.puts i hi (hv x) hl hc))
theorem w6_putK {X Y : Operand} (h : W6 w W0 p c ps) (i : Nat) (hi : i < 6) (x : Sh.Ks) (hl : (c i).length = 10) (hc : ∀ k, k < 6 → c' k = if k = i then kv x else c k) (hw : W = W0) (hgd : o.guard = none) (ho : o.op = .store 30 X Y) (hx : a.eval X = .pointer (some ⟨p i, 0, none⟩)) (hy : a.eval Y = (.agg #[.int .i64 x.ph, .int .i64 x.ep, .bool x.mj, .slice x.wk.a x.wk.n x.wk.c, .bool x.ov, .int .i64 x.pa, .int .i64 x.pf, .int .i64 x.ps, .int .i64 x.pc, .bool x.me])) (hK : ∀ W', W6 w W' p c' ps → wpList Tryz.prog ops Q rest (a.put o.dst undef) W') : wpList Tryz.prog ops Q (o :: rest) a W :=
  w_store (stKb (h.box i hi) hl x) hw hgd ho hx hy (hK _ (h.puts i hi (kv x) hl hc))
theorem w6_putT {X Y : Operand} (h : W6 w W0 p c ps) (i : Nat) (hi : i < 6) (x : Ts) (hl : (c i).length = 15) (hc : ∀ k, k < 6 → c' k = if k = i then tv x else c k) (hw : W = W0) (hgd : o.guard = none) (ho : o.op = .store 34 X Y) (hx : a.eval X = .pointer (some ⟨p i, 0, none⟩)) (hy : a.eval Y = (.agg #[.bool x.lv, .int .i64 (x.r 0), .int .i64 (x.r 1), .int .i64 (x.r 2), .int .i64 (x.r 3), .slice (x.u 0).a (x.u 0).n (x.u 0).c, .slice (x.u 1).a (x.u 1).n (x.u 1).c, .slice (x.u 2).a (x.u 2).n (x.u 2).c, .int .i64 x.ep, .int .i64 x.sg, .int .i64 x.rt, .slice x.o.a x.o.n x.o.c, .int .i64 x.pc, .int .i64 x.x, .int .i64 x.y])) (hK : ∀ W', W6 w W' p c' ps → wpList Tryz.prog ops Q rest (a.put o.dst undef) W') : wpList Tryz.prog ops Q (o :: rest) a W :=
  w_store (stTb (h.box i hi) hl x) hw hgd ho hx hy (hK _ (h.puts i hi (tv x) hl hc))
theorem w6_int {X Y : Operand} (h : W6 w W0 p c ps) (i : Nat) (hi : i < 6) (j : Nat) (z : Int) {vs : List Value} (hj : j < (c i).length) (hv : (c i).set j (.int .i64 z) = vs) (hc : ∀ k, k < 6 → c' k = if k = i then vs else c k) (hw : W = W0) (hgd : o.guard = none) (ho : o.op = .store 3 X Y) (hx : a.eval X = .pointer (some ⟨p i, j, none⟩)) (hy : a.eval Y = .int .i64 z) (hK : ∀ W', W6 w W' p c' ps → wpList Tryz.prog ops Q rest (a.put o.dst undef) W') : wpList Tryz.prog ops Q (o :: rest) a W :=
  w_store (st_int (h.box i hi) hj z) hw hgd ho hx hy (hK _ (h.cell i hi j (.int .i64 z) hv hc))
end
end Go.Proofs.YtgmkomnoiffapaaGreatDoor.Ha
end
section
namespace Go.Proofs.YtgmkomnoiffapaaGreatDoor.Ha
open Go.Proofs.YtgmkomnoiffapaaGreatDoor Go.Proofs.YtgmkomnoiffapaaGreatDoor.Rt
open Go.RowKit
open Go.Proofs.YtgmkomnoiffapaaGreatDoor.Mu (hv kv w_load w_store w_loadg ldHb ldKb ldTb stHb stKb stTb)
set_option maxRecDepth 100000

def p3 (a b c : Nat) : Nat → Nat
  | 0 => a
  | 1 => b
  | _ => c
def c3 (a b c : List Value) : Nat → List Value
  | 0 => a
  | 1 => b
  | _ => c
structure W3 (w W : World) (p : Nat → Nat) (c : Nat → List Value) (ps : List Q3) : Prop where
  bel : Below w.heap.size w W
  lo : ∀ i, i < 3 → w.heap.size ≤ p i
  inj : ∀ i j, i < 3 → j < 3 → ¬ i = j → ¬ p i = p j
  box : ∀ i, i < 3 → Box W (p i) (c i)
  hold : ∀ n ∈ ps, Hold W n ∧ ∀ i, i < 3 → OffQ (p i) n
section
variable {w W W' : World} {p : Nat → Nat} {c c' : Nat → List Value} {ps : List Q3} {i j : Nat} {n : Q3} {vs : List Value} {v : Value}
theorem W3.next (h : W3 w W p c ps) (hb : Below W.heap.size W W') : W3 w W' p c ps := ⟨h.bel.trans (hb.mono h.bel.size), h.lo, h.inj, fun i hi => (h.box i hi).next hb, fun n hn => ⟨(h.hold n hn).1.next hb, (h.hold n hn).2⟩⟩
theorem W3.at (h : W3 w W p c ps) (n : Q3) (hm : n ∈ ps) : Hold W n := (h.hold n hm).1
theorem W3.over (h : W3 w W p c ps) (hz : Cl.Sz w) : Cl.Sz W := hz.over h.bel hz.pos
theorem W3.held (h : W3 w W p c ps) (hn : Hold W n) (ho : ∀ i, i < 3 → OffQ (p i) n) : W3 w W p c (n :: ps) := ⟨h.bel, h.lo, h.inj, h.box, fun x hx => by
  rcases List.mem_cons.1 hx with rfl | hx
  · exact ⟨hn, ho⟩
  · exact h.hold x hx⟩
theorem W3.lt (h : W3 w W p c ps) (hi : i < 3) : p i < W.heap.size := (h.box i hi).lt
theorem W3.only (h : W3 w W p c (n :: ps)) : W3 w W p c [n] := ⟨h.bel, h.lo, h.inj, h.box, fun x hx => by
  rcases List.mem_singleton.1 hx with rfl
  exact h.hold _ (List.mem_cons.2 (.inl rfl))⟩
/-- One of the boxes is turned. -/
theorem W3.turn (h : W3 w W p c ps) (hi : i < 3) (hB : Box W' (p i) vs) (hbel : Below w.heap.size w W') (hs : ∀ k, ¬ k = p i → W'.heap[k]? = W.heap[k]?) (hz : W'.heap.size = W.heap.size) (hc : ∀ k, k < 3 → c' k = if k = i then vs else c k) : W3 w W' p c' ps := by
  refine ⟨hbel, h.lo, h.inj, fun k hk => ?_, fun n hn => ⟨hold_off (h.hold n hn).1 ((h.hold n hn).2 i hi) hs hz, (h.hold n hn).2⟩⟩
  rw [hc k hk]
  split
  · next e => subst e; exact hB
  · next e => exact (h.box k hk).same (hs _ (h.inj k i hk hi e)) (Nat.le_of_eq hz.symm)
theorem W3.puts (h : W3 w W p c ps) (i : Nat) (hi : i < 3) (vs : List Value) (hl : (c i).length = vs.length) (hc : ∀ k, k < 3 → c' k = if k = i then vs else c k) : W3 w (puts (p i) 0 vs W) p c' ps :=
  h.turn hi (Mu.box_all (h.box i hi) hl) (below_puts _ (h.lo i hi) _ _ _ h.bel) (fun _ hk => puts_other _ _ _ _ hk) (puts_size _ _ _ _) hc
theorem W3.cell (h : W3 w W p c ps) (i : Nat) (hi : i < 3) (j : Nat) (v : Value) (hv : (c i).set j v = vs) (hc : ∀ k, k < 3 → c' k = if k = i then vs else c k) : W3 w (W.setCell ⟨p i, j, none⟩ v) p c' ps := by
  have hb := (h.box i hi).set j v
  rw [hv] at hb
  exact h.turn hi hb (h.bel.setCell (p := ⟨p i, j, none⟩) (h.lo i hi) _) (fun _ hk => Below.heap_setCell _ _ _ _ hk) (by simp [World.setCell]) hc
theorem all3 {P : Nat → Prop} (h : P 0 ∧ P 1 ∧ P 2) : ∀ k, k < 3 → P k := fun k hk => by
  obtain ⟨h0, h1, h2⟩ := h
  match k, hk with
  | 0, _ => exact h0
  | 1, _ => exact h1
  | 2, _ => exact h2
theorem inj3 {b : Nat} : ∀ i j, i < 3 → j < 3 → ¬ i = j → ¬ p3 b (b + 1) (b + 2) i = p3 b (b + 1) (b + 2) j := by
  have e : ∀ i, i < 3 → p3 b (b + 1) (b + 2) i = b + i := all3 ⟨rfl, rfl, rfl⟩
  intro i j hi hj hne
  rw [e i hi, e j hj]
  omega
end
section
variable {w W W0 : World} {p : Nat → Nat} {c c' : Nat → List Value} {ps : List Q3} {ops : Array Oper} {rest : List Oper} {o : Oper} {a : Act} {Q : Exit → Act → World → Prop}
theorem w3_putT {X Y : Operand} (h : W3 w W0 p c ps) (i : Nat) (hi : i < 3) (x : Ts) (hl : (c i).length = 15) (hc : ∀ k, k < 3 → c' k = if k = i then tv x else c k) (hw : W = W0) (hgd : o.guard = none) (ho : o.op = .store 34 X Y) (hx : a.eval X = .pointer (some ⟨p i, 0, none⟩)) (hy : a.eval Y = (.agg #[.bool x.lv, .int .i64 (x.r 0), .int .i64 (x.r 1), .int .i64 (x.r 2), .int .i64 (x.r 3), .slice (x.u 0).a (x.u 0).n (x.u 0).c, .slice (x.u 1).a (x.u 1).n (x.u 1).c, .slice (x.u 2).a (x.u 2).n (x.u 2).c, .int .i64 x.ep, .int .i64 x.sg, .int .i64 x.rt, .slice x.o.a x.o.n x.o.c, .int .i64 x.pc, .int .i64 x.x, .int .i64 x.y])) (hK : ∀ W', W3 w W' p c' ps → wpList Tryz.prog ops Q rest (a.put o.dst undef) W') : wpList Tryz.prog ops Q (o :: rest) a W :=
  w_store (stTb (h.box i hi) hl x) hw hgd ho hx hy (hK _ (h.puts i hi (tv x) hl hc))
/-- Another state, in new memory, is held instead. -/
theorem W3.swap {n m : Q3} (h : W3 w W p c [n]) (hm : Hold W0 m) (hn : NewQ W.heap.size m) (hb : Below W.heap.size W W0) : W3 w W0 p c [m] := by
  have nx := h.next hb
  exact W3.held ⟨nx.bel, nx.lo, nx.inj, nx.box, fun x hx => (by cases hx)⟩ hm fun i hi => hn.off (h.lt hi)
end
end Go.Proofs.YtgmkomnoiffapaaGreatDoor.Ha
end
section
namespace Go.Proofs.YtgmkomnoiffapaaGreatDoor.Ha
open Go.Proofs.YtgmkomnoiffapaaGreatDoor
open Go.RowKit
set_option maxRecDepth 100000

/-- Slots within the frame, no two alike. -/
def fitG (ops : Array Oper) (n : Nat) : Bool := (List.range ops.size).all fun i => ((ops[i]?).map fun o => (match o.dst with
  | none => true
  | some s => decide (s < n) && (List.range i).all fun j => ((ops[j]?).map fun q => !(q.dst == some s)).getD true)).getD true
theorem fit_g {ops : Array Oper} {n i : Nat} {o : Oper} {s : Nat} (h : fitG ops n = true) (ho : ops[i]? = some o) (hs : o.dst = some s) : s < n ∧ ∀ j q, j < i → ops[j]? = some q → ¬ q.dst = some s := by
  have hi : i < ops.size := (Array.getElem?_eq_some_iff.1 ho).1
  have h2 := List.all_eq_true.1 h i (List.mem_range.2 hi)
  rw [ho] at h2
  simp only [Option.map_some, Option.getD_some] at h2
  rw [hs] at h2
  simp only [Bool.and_eq_true, decide_eq_true_eq] at h2
  refine ⟨h2.1, fun j q hj hq hd => ?_⟩
  have h3 := List.all_eq_true.1 h2.2 j (List.mem_range.2 hj)
  rw [hq] at h3
  simp [hd] at h3
/-- No other one has this slot. -/
theorem fit_ne {ops : Array Oper} {n i j : Nat} {o q : Oper} {s : Nat} (h : fitG ops n = true) (ho : ops[i]? = some o) (hs : o.dst = some s) (hq : ops[j]? = some q) (hd : q.dst = some s) : j = i := by
  rcases Nat.lt_trichotomy j i with hlt | e | hlt
  · exact absurd hd ((fit_g h ho hs).2 j q hlt hq)
  · exact e
  · exact absurd hs ((fit_g h hq hd).2 i o hlt ho)
open Go.Proofs.YtgmkomnoiffapaaGreatDoor.Mu (Pl)
theorem pl_put {ops : Array Oper} {a0 a : Act} {val val' : Nat → Value} {l : Nat → Bool} {i : Nat} {o : Oper} {v : Value} (hf : fitG ops a0.tmps.size = true) (h : Pl ops a0 val l a) (ho : ops[i]? = some o) (hv : ∀ j, l j = true → val' j = val j) (hl : l i = false) (he : val' i = v) : Pl ops a0 val' (Ls.upd l i true) (a.put o.dst v) := by
  cases hd : o.dst with
  | none =>
    refine ⟨h.sz, h.df, h.out, fun j q s hq hj hs => ?_⟩
    by_cases e : j = i
    · subst e
      rw [ho] at hq
      cases hq
      rw [hd] at hs
      cases hs
    · rw [Ls.upd_other _ _ e] at hj
      rw [hv j hj]
      exact h.got j q s hq hj hs
  | some s =>
    have h1 := fit_g hf ho hd
    refine ⟨by simp [Act.put, h.sz], h.df, fun j hj => ?_, fun j q s' hq hj hs => ?_⟩
    · have hne : ¬ s = j := fun e => hj i o ho (by rw [hd, e])
      rw [← h.out j hj]
      simp [Act.put, Array.getElem?_setIfInBounds_ne hne]
    · by_cases e : j = i
      · subst e
        rw [ho] at hq
        cases hq
        rw [hd] at hs
        cases hs
        have : s < a.tmps.size := by rw [h.sz]; exact h1.1
        simp [Act.put, this, he]
      · rw [Ls.upd_other _ _ e] at hj
        have hne : ¬ s = s' := fun e' => e (fit_ne hf ho hd hq (by rw [hs, e']))
        rw [hv j hj, ← h.got j q s' hq hj hs]
        simp [Act.put, Array.getElem?_setIfInBounds_ne hne]
/-- What is carried out, one by one. -/
def putD (val : Nat → Value) : List (Option Tmp) → Nat → Act → Act
  | [], _, a => a
  | d :: ds, k, a => putD val ds (k + 1) (a.put d (val k))
section
variable {val : Nat → Value}
theorem put_size (a : Act) (d : Option Tmp) (v : Value) : (a.put d v).tmps.size = a.tmps.size := by cases d <;> simp [Act.put]
theorem putD_out (j : Nat) : ∀ (ds : List (Option Tmp)) (k : Nat) (a : Act), (∀ i : Nat, ¬ ds[i]? = some (some j)) → (putD val ds k a).tmps[j]? = a.tmps[j]?
  | [], _, _, _ => rfl
  | d :: ds, k, a, h => by
    have e : (putD val ds (k + 1) (a.put d (val k))).tmps[j]? = _ := putD_out j ds (k + 1) _ fun i hi => h (i + 1) hi
    show (putD val ds (k + 1) _).tmps[j]? = _
    rw [e]
    cases hd : d with
    | none => rfl
    | some s => exact Sh.put_ne fun e' => h 0 (by rw [hd, e']; rfl)
theorem putD_at (j : Nat) : ∀ (ds : List (Option Tmp)) (k i : Nat) (a : Act), ds[i]? = some (some j) → (∀ i' : Nat, ds[i']? = some (some j) → i' = i) → j < a.tmps.size → (putD val ds k a).tmps[j]? = some (val (k + i))
  | [], _, i, _, h, _, _ => by simp at h
  | d :: ds, k, 0, a, h, hu, hj => by
    have e : (putD val ds (k + 1) (a.put d (val k))).tmps[j]? = _ := putD_out j ds (k + 1) _ fun i hi => by
      have := hu (i + 1) hi
      omega
    show (putD val ds (k + 1) _).tmps[j]? = _
    have hd : d = some j := by simpa using h
    rw [e, Nat.add_zero, hd]
    exact Sh.put_at hj
  | d :: ds, k, i + 1, a, h, hu, hj => by
    have e := putD_at j ds (k + 1) i (a.put d (val k)) h (fun i' hi' => by have := hu (i' + 1) hi'; omega) (by rw [put_size]; exact hj)
    show (putD val ds (k + 1) _).tmps[j]? = _
    rw [e, show k + 1 + i = k + (i + 1) by omega]
theorem putD_df : ∀ (ds : List (Option Tmp)) (k : Nat) (a : Act), (putD val ds k a).defers = a.defers
  | [], _, _ => rfl
  | d :: ds, k, a => by
    show (putD val ds (k + 1) _).defers = _
    rw [putD_df ds (k + 1)]
    cases d <;> rfl
end
/-- The frame behind a region. -/
theorem pl_full {ops : Array Oper} {a0 a : Act} {val : Nat → Value} {l : Nat → Bool} (h : Pl ops a0 val l a) (hf : fitG ops a0.tmps.size = true) (hall : ∀ i, i < ops.size → l i = true) (ds : List (Option Tmp)) (hd : ops.toList.map (·.dst) = ds) : a = putD val ds 0 a0 := by
  have hg : ∀ (i : Nat) (d : Option Tmp), ds[i]? = some d ↔ ∃ o : Oper, ops[i]? = some o ∧ o.dst = d := fun i d => by
    rw [← hd, List.getElem?_map, Array.getElem?_toList]
    simp [Option.map_eq_some_iff]
  refine Sh.act_ext (h.df.trans (putD_df _ _ _).symm) fun j => ?_
  by_cases hj : ∃ i : Nat, ds[i]? = some (some j)
  · obtain ⟨i, hi⟩ := hj
    obtain ⟨o, ho, hs⟩ := (hg i _).1 hi
    have hlt := (fit_g hf ho hs).1
    rw [putD_at j ds 0 i a0 hi (fun i' hi' => by
      obtain ⟨q, hq, hqs⟩ := (hg i' _).1 hi'
      exact fit_ne hf ho hs hq hqs) hlt, Nat.zero_add]
    exact h.got i o j ho (hall i (Array.getElem?_eq_some_iff.1 ho).1) hs
  · rw [putD_out j ds 0 a0 fun i hi => hj ⟨i, hi⟩]
    exact h.out j fun i o ho hs => hj ⟨i, (hg i _).2 ⟨o, ho, hs⟩⟩
section
variable {P : Program} {ops : Array Oper} {Q : Exit → Act → World → Prop}
end
end Go.Proofs.YtgmkomnoiffapaaGreatDoor.Ha
end
section
namespace Go.Proofs.YtgmkomnoiffapaaGreatDoor.Ha
open Go.Proofs.YtgmkomnoiffapaaGreatDoor
open Go.RowKit
open Go.Proofs.YtgmkomnoiffapaaGreatDoor.Mu (Pl)
set_option maxRecDepth 100000

/-- What is not carried out yet has left its slot alone. -/
def Kept (ops : Array Oper) (a0 : Act) (l : Nat → Bool) (a : Act) : Prop := ∀ (i : Nat) (o : Oper) (s : Nat), ops[i]? = some o → l i = false → o.dst = some s → a.tmps[s]? = a0.tmps[s]?
theorem kept_put {ops : Array Oper} {a0 a : Act} {l : Nat → Bool} {i : Nat} {o : Oper} {v : Value} (hf : fitG ops a0.tmps.size = true) (h : Kept ops a0 l a) (ho : ops[i]? = some o) : Kept ops a0 (Ls.upd l i true) (a.put o.dst v) := by
  intro j q s hq hj hs
  have e : ¬ j = i := fun e => by
    subst e
    rw [Ls.upd_same] at hj
    cases hj
  rw [Ls.upd_other _ _ e] at hj
  rw [← h j q s hq hj hs]
  cases hd : o.dst with
  | none => rfl
  | some s' => exact Sh.put_ne fun e' => e (fit_ne hf ho hd hq (by rw [hs, e']))
/-- What is carried out stands behind all that it is to stand behind. -/
def Cld (ops : Array Oper) (l : Nat → Bool) : Prop := ∀ (i : Nat) (o : Oper), ops[i]? = some o → l i = true → ∀ e ∈ o.after, Region.binds .any e = true → l e.on = true
theorem cld_put {ops : Array Oper} {l : Nat → Bool} {i : Nat} {o : Oper} (h : Cld ops l) (ho : ops[i]? = some o) (ha : ∀ e ∈ o.after, Region.binds .any e = true → l e.on = true) : Cld ops (Ls.upd l i true) := by
  have up : ∀ j, l j = true → Ls.upd l i true j = true := fun j hj => by unfold Ls.upd; split; rfl; exact hj
  intro j q hq hj e he hb
  by_cases e' : j = i
  · subst e'
    rw [ho] at hq
    cases hq
    exact up _ (ha e he hb)
  · rw [Ls.upd_other _ _ e'] at hj
    exact up _ (h j q hq hj e he hb)
section
variable {P : Program} {ops : Array Oper} {Q : Exit → Act → World → Prop}
theorem region_planK {X : Type} {id : Nat} {a : Act} {w : World} (hm : P.follows .mixedOrders = true) (hb : backAny ops = true) (hf : fitG ops a.tmps.size = true) (val : X → Nat → Value) (skip : Nat → Bool) (hz : ∀ x i, skip i = true → val x i = undef) (I : X → (Nat → Bool) → World → Prop) (x0 : X) (hstart : I x0 (fun _ => false) w.drew)
    (hw : ∀ (i : Nat) (o : Oper) (l : Nat → Bool) (a' : Act) (x : X), ops[i]? = some o → Pl ops a (val x) l a' → (∀ e ∈ o.after, Region.binds .any e = true → l e.on = true) → Region.wanted o (yielded ops a'.tmps) = !skip i)
    (hskip : ∀ (i : Nat) (l : Nat → Bool) (x : X) (W : World), skip i = true → I x l W → I x (Ls.upd l i true) W)
    (hstep : ∀ (i : Nat) (o : Oper) (l : Nat → Bool) (a' : Act) (x : X) (W : World), ops[i]? = some o → Pl ops a (val x) l a' → Kept ops a l a' → Cld ops l → I x l W → l i = false → skip i = false → (∀ e ∈ o.after, Region.binds .any e = true → l e.on = true) → ∀ K : Act → World → Prop,
      (∀ (x' : X) (W' : World), (∀ j, l j = true → val x' j = val x j) → I x' (Ls.upd l i true) W' → K (a'.put o.dst (val x' i)) W') → o.wp P a' W K Q)
    (hdone : ∀ (l : Nat → Bool) (a' : Act) (x : X) (W : World), Pl ops a (val x) l a' → I x l W → (∀ i, i < ops.size → l i = true) → Q .normal a' W) : (Code.region id ops true).wp P Q a w := by
  refine wp_region_from hm (fun a0 l a' W => a0 = a ∧ (Kept ops a l a' ∧ Cld ops l) ∧ ∃ x, Pl ops a (val x) l a' ∧ I x l W) (dag_any hb) ⟨rfl, ⟨fun _ _ _ _ _ _ => rfl, fun _ _ _ h => (by cases h)⟩, x0, ⟨rfl, rfl, fun _ _ => rfl, fun _ _ _ _ h => (by cases h)⟩, hstart⟩ ?_ ?_
  · rintro i o l a' W ho ⟨_, ⟨hk', hcd⟩, x, hP, hI⟩ hl haft K hK
    refine wpOp_of ho ?_
    have hg := hw i o l a' x ho hP haft
    cases hk : skip i with
    | true =>
      rw [hk] at hg
      rw [if_neg (show ¬ Region.wanted o (yielded ops a'.tmps) = true by rw [hg]; decide)]
      exact hK _ _ ⟨rfl, ⟨kept_put hf hk' ho, cld_put hcd ho haft⟩, x, pl_put hf hP ho (fun _ _ => rfl) hl (hz x i hk), hskip i l x W hk hI⟩
    | false =>
      rw [hk] at hg
      rw [if_pos (show Region.wanted o (yielded ops a'.tmps) = true from hg)]
      exact hstep i o l a' x W ho hP hk' hcd hI hl hk haft K fun x' W' hv hI' => hK _ _ ⟨rfl, ⟨kept_put hf hk' ho, cld_put hcd ho haft⟩, x', pl_put hf hP ho hv hl rfl, hI'⟩
  · rintro l a' W ⟨_, _, x, hP, hI⟩ hall
    exact hdone l a' x W hP hI hall
end
end Go.Proofs.YtgmkomnoiffapaaGreatDoor.Ha
end
section
namespace Go.Proofs.YtgmkomnoiffapaaGreatDoor.Ck
open Go.Proofs.YtgmkomnoiffapaaGreatDoor
open Go.RowKit
set_option maxRecDepth 100000

/-- What Of tells: an error, or a card. -/
def ofE (s : Hs) (d : Hd_) (a : Int) : Int := if mayB0 s d = false then 1 else if 16 ≤ a ∧ a < 16 + (s.w.n : Int) then 0 else 3
def ofK (a : Int) : Nat := ((a - 16) / 8).toNat
def ofN (s : Hs) (d : Hd_) (a : Int) : Int := if ofE s d a = 0 then (ofK a : Int) else 0
section
variable {s t : Hs} {d : Hd_}
end
end Go.Proofs.YtgmkomnoiffapaaGreatDoor.Ck
end
section
namespace Go.Proofs.YtgmkomnoiffapaaGreatDoor.Ck
open Go.Proofs.YtgmkomnoiffapaaGreatDoor
open Go.RowKit
section
variable (s : Hs) (d : Hd_) (w : World)
theorem of_bad (a : Int) (hp : Hp w w.heap.size s d) (hz : Cl.Sz w) (hf : Fine s d) (hm : mayB0 s d = false) : Calls Tryz.prog 57 #[(.agg #[.slice s.w.a s.w.n s.w.c, .slice s.p.a s.p.n s.p.c, .slice (s.u 0).a (s.u 0).n (s.u 0).c, .slice (s.u 1).a (s.u 1).n (s.u 1).c, .slice (s.u 2).a (s.u 2).n (s.u 2).c, .slice s.c.a s.c.n s.c.c]), .int .i64 a] w fun e w' => e = .returned (.tuple #[.int .i64 0, .int .i64 1]) ∧ Below w.heap.size w w' := by
  have HP := Lib.hid hp
  have HZ := Lib.hid hz
  have HF := Lib.hid hf
  have HM := Lib.hid hm
  have hz0 := hz.pos
  have b0 := (Below.refl w.heap.size w).alloc (Nat.le_refl _) (.cells #[.slice s.w.a s.w.n s.w.c, .slice s.p.a s.p.n s.p.c, .slice (s.u 0).a (s.u 0).n (s.u 0).c, .slice (s.u 1).a (s.u 1).n (s.u 1).c, .slice (s.u 2).a (s.u 2).n (s.u 2).c, .slice s.c.a s.c.n s.c.c] 28)
  clear hp hz hf hm
  go_enter Tryz.func57, Tryz.ntmps57
  go_wp2_with fail
  refine (pmay0_any s d _ (HP.out.next b0) (HZ.out.over b0 hz0) HF.out).mono ?_
  rw [HM.out]
  rintro e w1 ⟨rfl, hb1⟩
  have HB := Lib.hid (b0.trans (hb1.mono b0.size))
  clear b0 hb1
  go_wp2
  go_ret2
  exact ⟨rfl, HB.out⟩
theorem of_low (a : Int) (hp : Hp w w.heap.size s d) (hz : Cl.Sz w) (hf : Fine s d) (hm : mayB0 s d = true) (ha : a < 16) : Calls Tryz.prog 57 #[(.agg #[.slice s.w.a s.w.n s.w.c, .slice s.p.a s.p.n s.p.c, .slice (s.u 0).a (s.u 0).n (s.u 0).c, .slice (s.u 1).a (s.u 1).n (s.u 1).c, .slice (s.u 2).a (s.u 2).n (s.u 2).c, .slice s.c.a s.c.n s.c.c]), .int .i64 a] w fun e w' => e = .returned (.tuple #[.int .i64 0, .int .i64 3]) ∧ Below w.heap.size w w' := by
  have HP := Lib.hid hp
  have HZ := Lib.hid hz
  have HF := Lib.hid hf
  have HM := Lib.hid hm
  have hz0 := hz.pos
  have b0 := (Below.refl w.heap.size w).alloc (Nat.le_refl _) (.cells #[.slice s.w.a s.w.n s.w.c, .slice s.p.a s.p.n s.p.c, .slice (s.u 0).a (s.u 0).n (s.u 0).c, .slice (s.u 1).a (s.u 1).n (s.u 1).c, .slice (s.u 2).a (s.u 2).n (s.u 2).c, .slice s.c.a s.c.n s.c.c] 28)
  have a0 : decide (a < 16) = true := decide_eq_true ha
  clear hp hz hf hm ha
  go_enter Tryz.func57, Tryz.ntmps57
  go_wp2_with fail
  refine (pmay0_any s d _ (HP.out.next b0) (HZ.out.over b0 hz0) HF.out).mono ?_
  rw [HM.out]
  rintro e w1 ⟨rfl, hb1⟩
  have HB := Lib.hid (b0.trans (hb1.mono b0.size))
  clear b0 hb1
  go_wp2
  go_ret2
  exact ⟨rfl, HB.out⟩
theorem of_high (i : Nat) (hp : Hp w w.heap.size s d) (hz : Cl.Sz w) (hf : Fine s d) (hm : mayB0 s d = true) (hi : s.w.n ≤ i) (hw : 16 + (i : Int) ≤ 9223372036854775807) : Calls Tryz.prog 57 #[(.agg #[.slice s.w.a s.w.n s.w.c, .slice s.p.a s.p.n s.p.c, .slice (s.u 0).a (s.u 0).n (s.u 0).c, .slice (s.u 1).a (s.u 1).n (s.u 1).c, .slice (s.u 2).a (s.u 2).n (s.u 2).c, .slice s.c.a s.c.n s.c.c]), .int .i64 (16 + (i : Int))] w fun e w' => e = .returned (.tuple #[.int .i64 0, .int .i64 3]) ∧ Below w.heap.size w w' := by
  have HP := Lib.hid hp
  have HZ := Lib.hid hz
  have HF := Lib.hid hf
  have HM := Lib.hid hm
  have hz0 := hz.pos
  have b0 := (Below.refl w.heap.size w).alloc (Nat.le_refl _) (.cells #[.slice s.w.a s.w.n s.w.c, .slice s.p.a s.p.n s.p.c, .slice (s.u 0).a (s.u 0).n (s.u 0).c, .slice (s.u 1).a (s.u 1).n (s.u 1).c, .slice (s.u 2).a (s.u 2).n (s.u 2).c, .slice s.c.a s.c.n s.c.c] 28)
  have a0 : decide (16 + (i : Int) < 16) = false := decide_eq_false (by omega)
  have a1 : decide ((s.w.n : Int) ≤ 16 + (i : Int) - 16) = true := decide_eq_true (by omega)
  have a2 : decide (s.w.n ≤ i) = true := decide_eq_true hi
  clear hp hz hf hm
  go_enter Tryz.func57, Tryz.ntmps57
  go_wp2_with fail
  refine (pmay0_any s d _ (HP.out.next b0) (HZ.out.over b0 hz0) HF.out).mono ?_
  rw [HM.out]
  rintro e w1 ⟨rfl, hb1⟩
  have HB := Lib.hid (b0.trans (hb1.mono b0.size))
  have bx := (HBox.new w s 28).next hb1
  have q0 := bx.c0
  have ql := bx.lt
  clear b0 hb1 bx
  go_wp2
  go_ret2
  exact ⟨rfl, HB.out⟩
theorem of_in (i k : Nat) (hp : Hp w w.heap.size s d) (hz : Cl.Sz w) (hf : Fine s d) (hm : mayB0 s d = true) (hi : i < s.w.n) (hk : i / 8 = k) : Calls Tryz.prog 57 #[(.agg #[.slice s.w.a s.w.n s.w.c, .slice s.p.a s.p.n s.p.c, .slice (s.u 0).a (s.u 0).n (s.u 0).c, .slice (s.u 1).a (s.u 1).n (s.u 1).c, .slice (s.u 2).a (s.u 2).n (s.u 2).c, .slice s.c.a s.c.n s.c.c]), .int .i64 (16 + (i : Int))] w fun e w' => e = .returned (.tuple #[.int .i64 (k : Int), .int .i64 0]) ∧ Below w.heap.size w w' := by
  have HP := Lib.hid hp
  have HZ := Lib.hid hz
  have HF := Lib.hid hf
  have HM := Lib.hid hm
  have hz0 := hz.pos
  have hi4 : i ≤ 4000 := by have := hf.wn; omega
  have b0 := (Below.refl w.heap.size w).alloc (Nat.le_refl _) (.cells #[.slice s.w.a s.w.n s.w.c, .slice s.p.a s.p.n s.p.c, .slice (s.u 0).a (s.u 0).n (s.u 0).c, .slice (s.u 1).a (s.u 1).n (s.u 1).c, .slice (s.u 2).a (s.u 2).n (s.u 2).c, .slice s.c.a s.c.n s.c.c] 28)
  have a0 : decide (16 + (i : Int) < 16) = false := decide_eq_false (by omega)
  have a1 : decide ((s.w.n : Int) ≤ 16 + (i : Int) - 16) = false := decide_eq_false (by omega)
  have a2 : decide (s.w.n ≤ i) = false := decide_eq_false (by omega)
  have d1 : (16 + (i : Int) - 16) / 8 = k := by omega
  have d2 : Int.tdiv (16 + (i : Int) - 16) 8 = k := by rw [Int.tdiv_eq_ediv_of_nonneg (by omega)]; exact d1
  have d3 : (i : Int) / 8 = k := by omega
  have d4 : Int.tdiv (i : Int) 8 = k := by rw [Int.tdiv_eq_ediv_of_nonneg (by omega)]; exact d3
  have hk2 : k ≤ 500 := by omega
  clear hp hz hf hm hk
  go_enter Tryz.func57, Tryz.ntmps57
  go_wp2_with fail
  refine (pmay0_any s d _ (HP.out.next b0) (HZ.out.over b0 hz0) HF.out).mono ?_
  rw [HM.out]
  rintro e w1 ⟨rfl, hb1⟩
  have HB := Lib.hid (b0.trans (hb1.mono b0.size))
  have bx := (HBox.new w s 28).next hb1
  have q0 := bx.c0
  have ql := bx.lt
  clear b0 hb1 bx
  go_wp2
  go_ret2
  exact ⟨rfl, HB.out⟩
theorem of_any (a : Int) (hp : Hp w w.heap.size s d) (hz : Cl.Sz w) (hf : Fine s d) (ha : a ≤ 9223372036854775807) : Calls Tryz.prog 57 #[(.agg #[.slice s.w.a s.w.n s.w.c, .slice s.p.a s.p.n s.p.c, .slice (s.u 0).a (s.u 0).n (s.u 0).c, .slice (s.u 1).a (s.u 1).n (s.u 1).c, .slice (s.u 2).a (s.u 2).n (s.u 2).c, .slice s.c.a s.c.n s.c.c]), .int .i64 a] w fun e w' => e = .returned (.tuple #[.int .i64 (ofN s d a), .int .i64 (ofE s d a)]) ∧ Below w.heap.size w w' := by
  cases hm : mayB0 s d
  · have e : ofE s d a = 1 := if_pos hm
    have e2 : ofN s d a = 0 := if_neg (by rw [e]; decide)
    rw [e, e2]
    exact of_bad s d w a hp hz hf hm
  · by_cases h1 : a < 16
    · have e : ofE s d a = 3 := by unfold ofE; rw [if_neg (by rw [hm]; decide), if_neg (by omega)]
      have e2 : ofN s d a = 0 := if_neg (by rw [e]; decide)
      rw [e, e2]
      exact of_low s d w a hp hz hf hm h1
    · obtain ⟨i, rfl⟩ : ∃ i : Nat, a = 16 + i := ⟨(a - 16).toNat, by omega⟩
      by_cases h2 : i < s.w.n
      · have e : ofE s d (16 + (i : Int)) = 0 := by unfold ofE; rw [if_neg (by rw [hm]; decide), if_pos (by omega)]
        have e2 : ofN s d (16 + (i : Int)) = ((i / 8 : Nat) : Int) := by
          unfold ofN ofK
          rw [if_pos e]
          omega
        rw [e, e2]
        exact of_in s d w i (i / 8) hp hz hf hm h2 rfl
      · have e : ofE s d (16 + (i : Int)) = 3 := by unfold ofE; rw [if_neg (by rw [hm]; decide), if_neg (by omega)]
        have e2 : ofN s d (16 + (i : Int)) = 0 := if_neg (by rw [e]; decide)
        rw [e, e2]
        exact of_high s d w i hp hz hf hm (by omega) ha
end
end Go.Proofs.YtgmkomnoiffapaaGreatDoor.Ck
end
section
namespace Go.Proofs.YtgmkomnoiffapaaGreatDoor.Ck
open Go.Proofs.YtgmkomnoiffapaaGreatDoor
open Go.RowKit
set_option maxRecDepth 100000

/-- The boxes of a call's heap and of its result. -/
structure Bx (w W : World) (s : Hs) (d : Hd_) : Prop where
  bel : Below w.heap.size w W
  hb : HBox W w.heap.size s
  rb : Box6 W (w.heap.size + 1) noHs
  hp : Hp W W.heap.size s d
section
variable {w W W' : World} {s t : Hs} {d : Hd_}
theorem Bx.next (h : Bx w W s d) (hb : Below W.heap.size W W') : Bx w W' s d := ⟨h.bel.trans (hb.mono h.bel.size), h.hb.next hb, h.rb.next hb, h.hp.next hb⟩
end
end Go.Proofs.YtgmkomnoiffapaaGreatDoor.Ck
end
section
namespace Go.Proofs.YtgmkomnoiffapaaGreatDoor.Ck
open Go.Proofs.YtgmkomnoiffapaaGreatDoor
open Go.RowKit
set_option maxRecDepth 100000

/-- What Dirty and Clean tell: a heap, its lengths, an error. -/
structure Rz where
  d : Hd_
  wn : Nat
  pn : Nat
  cn : Nat
  er : Int
def dN : Hd_ := ⟨[], fun _ => (0, 0), Ls.noLists, fun _ => false⟩
def HOut (w : World) (r : Rz) (e : Ending) (w' : World) : Prop :=
  ∃ t : Hs, e = .returned (.tuple #[(.agg #[.slice t.w.a t.w.n t.w.c, .slice t.p.a t.p.n t.p.c, .slice (t.u 0).a (t.u 0).n (t.u 0).c, .slice (t.u 1).a (t.u 1).n (t.u 1).c, .slice (t.u 2).a (t.u 2).n (t.u 2).c, .slice t.c.a t.c.n t.c.c]), .int .i64 r.er]) ∧ Hp w' w'.heap.size t r.d ∧ (t.w.n = r.wn ∧ t.p.n = r.pn ∧ t.c.n = r.cn) ∧ Below w.heap.size w w'
/-- .. the heap lies in new memory. -/
def HNew (w : World) (r : Rz) (e : Ending) (w' : World) : Prop :=
  ∃ t : Hs, e = .returned (.tuple #[(.agg #[.slice t.w.a t.w.n t.w.c, .slice t.p.a t.p.n t.p.c, .slice (t.u 0).a (t.u 0).n (t.u 0).c, .slice (t.u 1).a (t.u 1).n (t.u 1).c, .slice (t.u 2).a (t.u 2).n (t.u 2).c, .slice t.c.a t.c.n t.c.c]), .int .i64 r.er]) ∧ Hp w' w'.heap.size t r.d ∧ (t.w.n = r.wn ∧ t.p.n = r.pn ∧ t.c.n = r.cn) ∧ Below w.heap.size w w' ∧ News w.heap.size t
theorem HNew.out {w w' : World} {r : Rz} {e : Ending} (h : HNew w r e w') : HOut w r e w' := by
  obtain ⟨t, h1, h2, h3, h4, _⟩ := h
  exact ⟨t, h1, h2, h3, h4⟩
theorem hp_none (w : World) (B : Nat) : Hp w B noHs dN := ⟨⟨rfl, fun h => absurd h (by decide)⟩, fun h => absurd h (by decide), Ls.L3.none_ _ _, fun h => absurd h (by decide)⟩
section
variable (s : Hs) (d : Hd_) (w : World)
end
end Go.Proofs.YtgmkomnoiffapaaGreatDoor.Ck
end
