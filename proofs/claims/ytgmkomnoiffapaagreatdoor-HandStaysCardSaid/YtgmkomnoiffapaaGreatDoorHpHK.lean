/-
  Merged texts: HaW3, HaG, HpIns, HpLess, HpSix, AlIns, ShIns, RtIns.
-/
import Derived.Test.YtgmkomnoiffapaaGreatDoorHpHI
import Derived.Test.YtgmkomnoiffapaaGreatDoorHpHH
import Derived.Test.YtgmkomnoiffapaaGreatDoorCards
import Derived.Test.YtgmkomnoiffapaaGreatDoorTie
import Derived.Test.YtgmkomnoiffapaaGreatDoorHpHE
import Derived.Deep.SlicePairs
import Derived.Deep.Slices
import Derived.Deep.Fields
import Derived.ProofKit
import Derived.OpenShut
import Derived.ShutString
import Derived.ChangeOld
import Derived.LaidMore
import Derived.Lib.LaidTab
import Derived.Stop.Joined
import Derived.SevenTiedAt
import Derived.Laws.IdiomArrays
import Derived.Test.YtgmkomnoiffapaaGreatDoorRows
import Derived.WalkKit
import Derived.Test.YtgmkomnoiffapaaGreatDoorHpHG
import Derived.Test.YtgmkomnoiffapaaGreatDoorHpHF
section
namespace Go.Proofs.YtgmkomnoiffapaaGreatDoor.Ha
open Go.Proofs.YtgmkomnoiffapaaGreatDoor Go.Proofs.YtgmkomnoiffapaaGreatDoor.Rt
open Go.RowKit
open Go.Proofs.YtgmkomnoiffapaaGreatDoor.Mu (hv kv w_load w_store w_loadg ldHb ldKb ldTb stHb stKb stTb)
set_option maxRecDepth 100000

def p3 (a b c : Nat) : Nat → Nat
  | 0 => a
  | 1 => b
  | _ => c
def c3 (a b c : List Value) : Nat → List Value
  | 0 => a
  | 1 => b
  | _ => c
structure W3 (w W : World) (p : Nat → Nat) (c : Nat → List Value) (ps : List Q3) : Prop where
  bel : Below w.heap.size w W
  lo : ∀ i, i < 3 → w.heap.size ≤ p i
  inj : ∀ i j, i < 3 → j < 3 → ¬ i = j → ¬ p i = p j
  box : ∀ i, i < 3 → Box W (p i) (c i)
  hold : ∀ n ∈ ps, Hold W n ∧ ∀ i, i < 3 → OffQ (p i) n
section
variable {w W W' : World} {p : Nat → Nat} {c c' : Nat → List Value} {ps : List Q3} {i j : Nat} {n : Q3} {vs : List Value} {v : Value}
theorem W3.next (h : W3 w W p c ps) (hb : Below W.heap.size W W') : W3 w W' p c ps := ⟨h.bel.trans (hb.mono h.bel.size), h.lo, h.inj, fun i hi => (h.box i hi).next hb, fun n hn => ⟨(h.hold n hn).1.next hb, (h.hold n hn).2⟩⟩
theorem W3.at (h : W3 w W p c ps) (n : Q3) (hm : n ∈ ps) : Hold W n := (h.hold n hm).1
theorem W3.over (h : W3 w W p c ps) (hz : Cl.Sz w) : Cl.Sz W := hz.over h.bel hz.pos
theorem W3.held (h : W3 w W p c ps) (hn : Hold W n) (ho : ∀ i, i < 3 → OffQ (p i) n) : W3 w W p c (n :: ps) := ⟨h.bel, h.lo, h.inj, h.box, fun x hx => by
  rcases List.mem_cons.1 hx with rfl | hx
  · exact ⟨hn, ho⟩
  · exact h.hold x hx⟩
theorem W3.lt (h : W3 w W p c ps) (hi : i < 3) : p i < W.heap.size := (h.box i hi).lt
theorem W3.only (h : W3 w W p c (n :: ps)) : W3 w W p c [n] := ⟨h.bel, h.lo, h.inj, h.box, fun x hx => by
  rcases List.mem_singleton.1 hx with rfl
  exact h.hold _ (List.mem_cons.2 (.inl rfl))⟩
/-- One of the boxes is turned. -/
theorem W3.turn (h : W3 w W p c ps) (hi : i < 3) (hB : Box W' (p i) vs) (hbel : Below w.heap.size w W') (hs : ∀ k, ¬ k = p i → W'.heap[k]? = W.heap[k]?) (hz : W'.heap.size = W.heap.size) (hc : ∀ k, k < 3 → c' k = if k = i then vs else c k) : W3 w W' p c' ps := by
  refine ⟨hbel, h.lo, h.inj, fun k hk => ?_, fun n hn => ⟨hold_off (h.hold n hn).1 ((h.hold n hn).2 i hi) hs hz, (h.hold n hn).2⟩⟩
  rw [hc k hk]
  split
  · next e => subst e; exact hB
  · next e => exact (h.box k hk).same (hs _ (h.inj k i hk hi e)) (Nat.le_of_eq hz.symm)
theorem W3.puts (h : W3 w W p c ps) (i : Nat) (hi : i < 3) (vs : List Value) (hl : (c i).length = vs.length) (hc : ∀ k, k < 3 → c' k = if k = i then vs else c k) : W3 w (puts (p i) 0 vs W) p c' ps :=
  h.turn hi (Mu.box_all (h.box i hi) hl) (below_puts _ (h.lo i hi) _ _ _ h.bel) (fun _ hk => puts_other _ _ _ _ hk) (puts_size _ _ _ _) hc
theorem W3.cell (h : W3 w W p c ps) (i : Nat) (hi : i < 3) (j : Nat) (v : Value) (hv : (c i).set j v = vs) (hc : ∀ k, k < 3 → c' k = if k = i then vs else c k) : W3 w (W.setCell ⟨p i, j, none⟩ v) p c' ps := by
  have hb := (h.box i hi).set j v
  rw [hv] at hb
  exact h.turn hi hb (h.bel.setCell (p := ⟨p i, j, none⟩) (h.lo i hi) _) (fun _ hk => Below.heap_setCell _ _ _ _ hk) (by simp [World.setCell]) hc
theorem all3 {P : Nat → Prop} (h : P 0 ∧ P 1 ∧ P 2) : ∀ k, k < 3 → P k := fun k hk => by
  obtain ⟨h0, h1, h2⟩ := h
  match k, hk with
  | 0, _ => exact h0
  | 1, _ => exact h1
  | 2, _ => exact h2
theorem inj3 {b : Nat} : ∀ i j, i < 3 → j < 3 → ¬ i = j → ¬ p3 b (b + 1) (b + 2) i = p3 b (b + 1) (b + 2) j := by
  have e : ∀ i, i < 3 → p3 b (b + 1) (b + 2) i = b + i := all3 ⟨rfl, rfl, rfl⟩
  intro i j hi hj hne
  rw [e i hi, e j hj]
  omega
end
section
variable {w W W0 : World} {p : Nat → Nat} {c c' : Nat → List Value} {ps : List Q3} {ops : Array Oper} {rest : List Oper} {o : Oper} {a : Act} {Q : Exit → Act → World → Prop}
theorem w3_putH {X Y : Operand} (h : W3 w W0 p c ps) (i : Nat) (hi : i < 3) (x : Hs) (hl : (c i).length = 6) (hc : ∀ k, k < 3 → c' k = if k = i then hv x else c k) (hw : W = W0) (hgd : o.guard = none) (ho : o.op = .store 28 X Y) (hx : a.eval X = .pointer (some ⟨p i, 0, none⟩)) (hy : a.eval Y = (.agg #[.slice x.w.a x.w.n x.w.c, .slice x.p.a x.p.n x.p.c, .slice (x.u 0).a (x.u 0).n (x.u 0).c, .slice (x.u 1).a (x.u 1).n (x.u 1).c, .slice (x.u 2).a (x.u 2).n (x.u 2).c, .slice x.c.a x.c.n x.c.c])) (hK : ∀ W', W3 w W' p c' ps → wpList Tryz.prog ops Q rest (a.put o.dst undef) W') : wpList Tryz.prog ops Q (o :: rest) a W :=
  w_store (stHb (h.box i hi) hl x) hw hgd ho hx hy (hK _ (h.puts i hi (hv x) hl hc))
theorem w3_putK {X Y : Operand} (h : W3 w W0 p c ps) (i : Nat) (hi : i < 3) (x : Sh.Ks) (hl : (c i).length = 10) (hc : ∀ k, k < 3 → c' k = if k = i then kv x else c k) (hw : W = W0) (hgd : o.guard = none) (ho : o.op = .store 30 X Y) (hx : a.eval X = .pointer (some ⟨p i, 0, none⟩)) (hy : a.eval Y = (.agg #[.int .i64 x.ph, .int .i64 x.ep, .bool x.mj, .slice x.wk.a x.wk.n x.wk.c, .bool x.ov, .int .i64 x.pa, .int .i64 x.pf, .int .i64 x.ps, .int .i64 x.pc, .bool x.me])) (hK : ∀ W', W3 w W' p c' ps → wpList Tryz.prog ops Q rest (a.put o.dst undef) W') : wpList Tryz.prog ops Q (o :: rest) a W :=
  w_store (stKb (h.box i hi) hl x) hw hgd ho hx hy (hK _ (h.puts i hi (kv x) hl hc))
theorem w3_putT {X Y : Operand} (h : W3 w W0 p c ps) (i : Nat) (hi : i < 3) (x : Ts) (hl : (c i).length = 15) (hc : ∀ k, k < 3 → c' k = if k = i then tv x else c k) (hw : W = W0) (hgd : o.guard = none) (ho : o.op = .store 34 X Y) (hx : a.eval X = .pointer (some ⟨p i, 0, none⟩)) (hy : a.eval Y = (.agg #[.bool x.lv, .int .i64 (x.r 0), .int .i64 (x.r 1), .int .i64 (x.r 2), .int .i64 (x.r 3), .slice (x.u 0).a (x.u 0).n (x.u 0).c, .slice (x.u 1).a (x.u 1).n (x.u 1).c, .slice (x.u 2).a (x.u 2).n (x.u 2).c, .int .i64 x.ep, .int .i64 x.sg, .int .i64 x.rt, .slice x.o.a x.o.n x.o.c, .int .i64 x.pc, .int .i64 x.x, .int .i64 x.y])) (hK : ∀ W', W3 w W' p c' ps → wpList Tryz.prog ops Q rest (a.put o.dst undef) W') : wpList Tryz.prog ops Q (o :: rest) a W :=
  w_store (stTb (h.box i hi) hl x) hw hgd ho hx hy (hK _ (h.puts i hi (tv x) hl hc))
/-- The boxes of a law's three arguments. -/
theorem w3_start {n : Q3} {bs : List (Nat × List Value)} {rs : List Tl} (h : Lb w W (boxes3 w.heap.size n.s n.k n.t ++ bs) [n] rs) (hh : Hold w n) : W3 w W (p3 w.heap.size (w.heap.size + 1) (w.heap.size + 2)) (c3 (hv n.s) (kv n.k) (tv n.t)) [n] := by
  refine W3.held ⟨h.bel, all3 ⟨Nat.le_refl _, Nat.le_add_right _ _, Nat.le_add_right _ _⟩, inj3, all3 ⟨h.bx w.heap.size (hv n.s) (by simp [boxes3]), h.bx (w.heap.size + 1) (kv n.k) (by simp [boxes3]), h.bx (w.heap.size + 2) (tv n.t) (by simp [boxes3])⟩, fun x hx => (by cases hx)⟩ (h.at n (by simp)) (all3 ⟨off_old hh (Nat.le_refl _), off_old hh (Nat.le_add_right _ _), off_old hh (Nat.le_add_right _ _)⟩)
/-- Another state, in new memory, is held instead. -/
theorem W3.swap {n m : Q3} (h : W3 w W p c [n]) (hm : Hold W0 m) (hn : NewQ W.heap.size m) (hb : Below W.heap.size W W0) : W3 w W0 p c [m] := by
  have nx := h.next hb
  exact W3.held ⟨nx.bel, nx.lo, nx.inj, nx.box, fun x hx => (by cases hx)⟩ hm fun i hi => hn.off (h.lt hi)
end
end Go.Proofs.YtgmkomnoiffapaaGreatDoor.Ha
end
section
namespace Go.Proofs.YtgmkomnoiffapaaGreatDoor.Ha
open Go.Proofs.YtgmkomnoiffapaaGreatDoor
open Go.RowKit
set_option maxRecDepth 100000

/-- Slots within the frame, no two alike. -/
def fitG (ops : Array Oper) (n : Nat) : Bool := (List.range ops.size).all fun i => ((ops[i]?).map fun o => (match o.dst with
  | none => true
  | some s => decide (s < n) && (List.range i).all fun j => ((ops[j]?).map fun q => !(q.dst == some s)).getD true)).getD true
theorem fit_g {ops : Array Oper} {n i : Nat} {o : Oper} {s : Nat} (h : fitG ops n = true) (ho : ops[i]? = some o) (hs : o.dst = some s) : s < n ∧ ∀ j q, j < i → ops[j]? = some q → ¬ q.dst = some s := by
  have hi : i < ops.size := (Array.getElem?_eq_some_iff.1 ho).1
  have h2 := List.all_eq_true.1 h i (List.mem_range.2 hi)
  rw [ho] at h2
  simp only [Option.map_some, Option.getD_some] at h2
  rw [hs] at h2
  simp only [Bool.and_eq_true, decide_eq_true_eq] at h2
  refine ⟨h2.1, fun j q hj hq hd => ?_⟩
  have h3 := List.all_eq_true.1 h2.2 j (List.mem_range.2 hj)
  rw [hq] at h3
  simp [hd] at h3
/-- No other one has this slot. -/
theorem fit_ne {ops : Array Oper} {n i j : Nat} {o q : Oper} {s : Nat} (h : fitG ops n = true) (ho : ops[i]? = some o) (hs : o.dst = some s) (hq : ops[j]? = some q) (hd : q.dst = some s) : j = i := by
  rcases Nat.lt_trichotomy j i with hlt | e | hlt
  · exact absurd hd ((fit_g h ho hs).2 j q hlt hq)
  · exact e
  · exact absurd hs ((fit_g h hq hd).2 i o hlt ho)
open Go.Proofs.YtgmkomnoiffapaaGreatDoor.Mu (Pl)
theorem pl_put {ops : Array Oper} {a0 a : Act} {val val' : Nat → Value} {l : Nat → Bool} {i : Nat} {o : Oper} {v : Value} (hf : fitG ops a0.tmps.size = true) (h : Pl ops a0 val l a) (ho : ops[i]? = some o) (hv : ∀ j, l j = true → val' j = val j) (hl : l i = false) (he : val' i = v) : Pl ops a0 val' (Ls.upd l i true) (a.put o.dst v) := by
  cases hd : o.dst with
  | none =>
    refine ⟨h.sz, h.df, h.out, fun j q s hq hj hs => ?_⟩
    by_cases e : j = i
    · subst e
      rw [ho] at hq
      cases hq
      rw [hd] at hs
      cases hs
    · rw [Ls.upd_other _ _ e] at hj
      rw [hv j hj]
      exact h.got j q s hq hj hs
  | some s =>
    have h1 := fit_g hf ho hd
    refine ⟨by simp [Act.put, h.sz], h.df, fun j hj => ?_, fun j q s' hq hj hs => ?_⟩
    · have hne : ¬ s = j := fun e => hj i o ho (by rw [hd, e])
      rw [← h.out j hj]
      simp [Act.put, Array.getElem?_setIfInBounds_ne hne]
    · by_cases e : j = i
      · subst e
        rw [ho] at hq
        cases hq
        rw [hd] at hs
        cases hs
        have : s < a.tmps.size := by rw [h.sz]; exact h1.1
        simp [Act.put, this, he]
      · rw [Ls.upd_other _ _ e] at hj
        have hne : ¬ s = s' := fun e' => e (fit_ne hf ho hd hq (by rw [hs, e']))
        rw [hv j hj, ← h.got j q s' hq hj hs]
        simp [Act.put, Array.getElem?_setIfInBounds_ne hne]
/-- What is carried out, one by one. -/
def putD (val : Nat → Value) : List (Option Tmp) → Nat → Act → Act
  | [], _, a => a
  | d :: ds, k, a => putD val ds (k + 1) (a.put d (val k))
section
variable {val : Nat → Value}
theorem put_size (a : Act) (d : Option Tmp) (v : Value) : (a.put d v).tmps.size = a.tmps.size := by cases d <;> simp [Act.put]
theorem putD_out (j : Nat) : ∀ (ds : List (Option Tmp)) (k : Nat) (a : Act), (∀ i : Nat, ¬ ds[i]? = some (some j)) → (putD val ds k a).tmps[j]? = a.tmps[j]?
  | [], _, _, _ => rfl
  | d :: ds, k, a, h => by
    have e : (putD val ds (k + 1) (a.put d (val k))).tmps[j]? = _ := putD_out j ds (k + 1) _ fun i hi => h (i + 1) hi
    show (putD val ds (k + 1) _).tmps[j]? = _
    rw [e]
    cases hd : d with
    | none => rfl
    | some s => exact Sh.put_ne fun e' => h 0 (by rw [hd, e']; rfl)
theorem putD_at (j : Nat) : ∀ (ds : List (Option Tmp)) (k i : Nat) (a : Act), ds[i]? = some (some j) → (∀ i' : Nat, ds[i']? = some (some j) → i' = i) → j < a.tmps.size → (putD val ds k a).tmps[j]? = some (val (k + i))
  | [], _, i, _, h, _, _ => by simp at h
  | d :: ds, k, 0, a, h, hu, hj => by
    have e : (putD val ds (k + 1) (a.put d (val k))).tmps[j]? = _ := putD_out j ds (k + 1) _ fun i hi => by
      have := hu (i + 1) hi
      omega
    show (putD val ds (k + 1) _).tmps[j]? = _
    have hd : d = some j := by simpa using h
    rw [e, Nat.add_zero, hd]
    exact Sh.put_at hj
  | d :: ds, k, i + 1, a, h, hu, hj => by
    have e := putD_at j ds (k + 1) i (a.put d (val k)) h (fun i' hi' => by have := hu (i' + 1) hi'; omega) (by rw [put_size]; exact hj)
    show (putD val ds (k + 1) _).tmps[j]? = _
    rw [e, show k + 1 + i = k + (i + 1) by omega]
theorem putD_df : ∀ (ds : List (Option Tmp)) (k : Nat) (a : Act), (putD val ds k a).defers = a.defers
  | [], _, _ => rfl
  | d :: ds, k, a => by
    show (putD val ds (k + 1) _).defers = _
    rw [putD_df ds (k + 1)]
    cases d <;> rfl
end
/-- The frame behind a region. -/
theorem pl_full {ops : Array Oper} {a0 a : Act} {val : Nat → Value} {l : Nat → Bool} (h : Pl ops a0 val l a) (hf : fitG ops a0.tmps.size = true) (hall : ∀ i, i < ops.size → l i = true) (ds : List (Option Tmp)) (hd : ops.toList.map (·.dst) = ds) : a = putD val ds 0 a0 := by
  have hg : ∀ (i : Nat) (d : Option Tmp), ds[i]? = some d ↔ ∃ o : Oper, ops[i]? = some o ∧ o.dst = d := fun i d => by
    rw [← hd, List.getElem?_map, Array.getElem?_toList]
    simp [Option.map_eq_some_iff]
  refine Sh.act_ext (h.df.trans (putD_df _ _ _).symm) fun j => ?_
  by_cases hj : ∃ i : Nat, ds[i]? = some (some j)
  · obtain ⟨i, hi⟩ := hj
    obtain ⟨o, ho, hs⟩ := (hg i _).1 hi
    have hlt := (fit_g hf ho hs).1
    rw [putD_at j ds 0 i a0 hi (fun i' hi' => by
      obtain ⟨q, hq, hqs⟩ := (hg i' _).1 hi'
      exact fit_ne hf ho hs hq hqs) hlt, Nat.zero_add]
    exact h.got i o j ho (hall i (Array.getElem?_eq_some_iff.1 ho).1) hs
  · rw [putD_out j ds 0 a0 fun i hi => hj ⟨i, hi⟩]
    exact h.out j fun i o ho hs => hj ⟨i, (hg i _).2 ⟨o, ho, hs⟩⟩
section
variable {P : Program} {ops : Array Oper} {Q : Exit → Act → World → Prop}
theorem region_planG {X : Type} {id : Nat} {a : Act} {w : World} (hm : P.follows .mixedOrders = true) (hb : backAny ops = true) (hf : fitG ops a.tmps.size = true) (val : X → Nat → Value) (skip : Nat → Bool) (hz : ∀ x i, skip i = true → val x i = undef) (I : X → (Nat → Bool) → World → Prop) (x0 : X) (hstart : I x0 (fun _ => false) w.drew)
    (hw : ∀ (i : Nat) (o : Oper) (l : Nat → Bool) (a' : Act) (x : X), ops[i]? = some o → Pl ops a (val x) l a' → (∀ e ∈ o.after, Region.binds .any e = true → l e.on = true) → Region.wanted o (yielded ops a'.tmps) = !skip i)
    (hskip : ∀ (i : Nat) (l : Nat → Bool) (x : X) (W : World), skip i = true → I x l W → I x (Ls.upd l i true) W)
    (hstep : ∀ (i : Nat) (o : Oper) (l : Nat → Bool) (a' : Act) (x : X) (W : World), ops[i]? = some o → Pl ops a (val x) l a' → I x l W → l i = false → skip i = false → (∀ e ∈ o.after, Region.binds .any e = true → l e.on = true) → ∀ K : Act → World → Prop,
      (∀ (x' : X) (W' : World), (∀ j, l j = true → val x' j = val x j) → I x' (Ls.upd l i true) W' → K (a'.put o.dst (val x' i)) W') → o.wp P a' W K Q)
    (hdone : ∀ (l : Nat → Bool) (a' : Act) (x : X) (W : World), Pl ops a (val x) l a' → I x l W → (∀ i, i < ops.size → l i = true) → Q .normal a' W) : (Code.region id ops true).wp P Q a w := by
  refine wp_region_from hm (fun a0 l a' W => a0 = a ∧ ∃ x, Pl ops a (val x) l a' ∧ I x l W) (dag_any hb) ⟨rfl, x0, ⟨rfl, rfl, fun _ _ => rfl, fun _ _ _ _ h => (by cases h)⟩, hstart⟩ ?_ ?_
  · rintro i o l a' W ho ⟨_, x, hP, hI⟩ hl haft K hK
    refine wpOp_of ho ?_
    have hg := hw i o l a' x ho hP haft
    cases hk : skip i with
    | true =>
      rw [hk] at hg
      rw [if_neg (show ¬ Region.wanted o (yielded ops a'.tmps) = true by rw [hg]; decide)]
      exact hK _ _ ⟨rfl, x, pl_put hf hP ho (fun _ _ => rfl) hl (hz x i hk), hskip i l x W hk hI⟩
    | false =>
      rw [hk] at hg
      rw [if_pos (show Region.wanted o (yielded ops a'.tmps) = true from hg)]
      exact hstep i o l a' x W ho hP hI hl hk haft K fun x' W' hv hI' => hK _ _ ⟨rfl, x', pl_put hf hP ho hv hl rfl, hI'⟩
  · rintro l a' W ⟨_, x, hP, hI⟩ hall
    exact hdone l a' x W hP hI hall
end
end Go.Proofs.YtgmkomnoiffapaaGreatDoor.Ha
end
section
namespace Go.Proofs.YtgmkomnoiffapaaGreatDoor
open Go.ChangeShapes Go.WideShapes Go.ChangeAt Go.RowKit Go.Deep
set_option maxRecDepth 100000

theorem own : ownKnob Tryz.prog.godebug = none := by kernel_rfl
theorem laidOut : laidOutB Tryz.prog = true := by kernel_rfl
def laidSizes : List (String × DataW Unit) := [("ragpicker/class.sizes", Rows.laid_ragpicker_class_sizes)]
theorem gSizes : Tryz.prog.globalNamed "ragpicker/class.sizes" = some 0 := by kernel_rfl
theorem tSizes : (Tryz.prog.globals[0]?).map (·.type) = some 150 := by kernel_rfl
theorem cInt : Tryz.prog.cellsOf 3 = 1 := by kernel_rfl
theorem cSizes : Tryz.prog.cellsOf 150 = 3 := by kernel_rfl
theorem of_laid {W : World} (h : laidMetH Tryz.prog laidSizes W) : Cl.Sz W := by
  rw [MakeChecks.laidMetH_plain _ _ _ (by kernel_rfl)] at h
  have hT : Lib.TabIs Tryz.prog W "ragpicker/class.sizes" .i64 [2, 4, 8] := Lib.tabIs_of_head gSizes tSizes Tryz.underlying150 Tryz.underlying3 cInt cSizes h
  exact ⟨hT.cell gSizes 0 (by decide), hT.cell gSizes 1 (by decide), hT.cell gSizes 2 (by decide)⟩
theorem door_met (os : Os) (args : Array Value) : laidMetH Tryz.prog laidSizes ((World.doorLaid Tryz.prog 400 os).forCall (fun _ _ => 0) ⟨#[], args, []⟩).memory :=
  laidMetH_of_parts3 (fuel := 8) (laidMet_of_run' 8 (by kernel_rfl) (by kernel_rfl)) (by kernel_rfl) (by kernel_rfl)

/-- How much a reading holds. -/
theorem bulk_one {H : Type} (d : DataW H) : 1 ≤ Rows.uptoBulk d := by
  cases d <;> first | (simp only [Rows.uptoBulk]; omega) | (rename_i l; cases l <;> simp [Rows.uptoBulk])
theorem bulk_long {H : Type} : ∀ l : List (DataW H), l.length ≤ Rows.uptoBulkAll l
  | [] => by simp [Rows.uptoBulkAll]
  | x :: r => by
    have h1 := bulk_one x
    have h2 := bulk_long r
    simp only [Rows.uptoBulkAll, List.length_cons]
    omega
theorem bulk_slice {H : Type} (l r : List (DataW H)) : l.length ≤ Rows.uptoBulk (.slice l r) := by
  have := bulk_long l
  simp only [Rows.uptoBulk]
  omega
theorem wf_bounds {n : Int} (h : (Lit.int .i64 n).wf = true) : -9223372036854775808 ≤ n ∧ n ≤ 9223372036854775807 := by
  simpa [Lit.wf, IntKind.min, IntKind.max, IntKind.signed, IntKind.bits] using h
def Fit64 (zs : List Int) : Prop := ∀ i, -9223372036854775808 ≤ zs.getD i 0 ∧ zs.getD i 0 ≤ 9223372036854775807
/-- A slice of numbers that comes in. -/
theorem ints_in {H : Type} {enc : TypeId × Value → H} {w : World} {base : Nat} {spare : Nat → Bool} {held : Bool} {fuel : Nat} {cs : List Value} {x : DataW H × List MemPlace}
    (h : DataW.trod enc Tryz.prog w base spare held fuel 22 cs = some x) :
    ∃ (s : Ls.Sl) (zs : List Int), cs = [.slice s.a s.n s.c] ∧ (Row w w.heap.size s.a s.n zs ∧ s.n ≤ s.c ∧ s.c ≤ maxLen) ∧ s.n ≤ Rows.uptoBulk x.1 ∧ Fit64 zs := by
  rcases open_ints Tryz.underlying22 Tryz.underlying3 (by kernel_rfl) h with ⟨rfl, rfl⟩ | ⟨y, len, cap, zs, rfl, _, hl, hm, hz, rfl, hcell, hwz⟩
  · exact ⟨⟨none, 0, 0⟩, [], rfl, ⟨Row.none_ _ _, Nat.le_refl _, by show (0 : Nat) ≤ maxLen; unfold maxLen; omega⟩, Nat.zero_le _, fun i => by simp⟩
  · have hz' : len ≤ zs.length := by rw [hz]; split <;> omega
    refine ⟨⟨some y, len, cap⟩, zs.take len, rfl, ⟨⟨by simp; omega, fun hn => ?_⟩, hl, hm⟩, ?_, fun i => ?_⟩
    · have hn' : 0 < len := hn
      obtain ⟨b, off, spot⟩ := y
      have h0 := hcell 0 (by omega)
      have hs : spot = none := by simpa [Addr.add] using World.cell?_spot h0
      subst hs
      refine ⟨b, off, rfl, ?_, fun i hi => ?_⟩
      · have := World.block_lt_of_cell? w _ h0
        simpa [Addr.add] using this
      · have hi' : i < len := hi
        have := hcell i (by omega)
        rw [Addr.add_lit] at this
        rw [this]
        simp [List.getD, hi']
    · have := bulk_slice (H := H) (lits .i64 (zs.take len)) (lits .i64 (zs.drop len))
      have e : (lits (H := H) .i64 (zs.take len)).length = len := by simp [lits]; omega
      show len ≤ Rows.uptoBulk (DataW.slice (lits .i64 (zs.take len)) (lits .i64 (zs.drop len)))
      rw [e] at this
      exact this
    · by_cases hi : i < len
      · have hi2 : i < zs.length := by omega
        have h1 := hwz (zs.getD i 0) (getD_mem hi2)
        rw [show (zs.take len).getD i 0 = zs.getD i 0 by simp [List.getD, hi]]
        exact wf_bounds h1
      · rw [show (zs.take len).getD i 0 = 0 by simp [List.getD, List.getElem?_eq_none (show (zs.take len).length ≤ i by simp; omega)]]
        omega
theorem bools_in {H : Type} {enc : TypeId × Value → H} {w : World} {base : Nat} {spare : Nat → Bool} {held : Bool} {fuel : Nat} {cs : List Value} {x : DataW H × List MemPlace}
    (h : DataW.trod enc Tryz.prog w base spare held fuel 26 cs = some x) : ∃ (s : Ls.Sl) (f : Nat → Bool), cs = [.slice s.a s.n s.c] ∧ BRow w w.heap.size s.a s.n f := by
  rcases open_slice Tryz.underlying26 h with ⟨hcs, _⟩ | ⟨y, len, cap, m, k, D, Pl, hcs, _, hl, hm, hmm, _, hi⟩
  · exact ⟨⟨none, 0, 0⟩, fun _ => false, hcs, fun h0 => absurd h0 (by simp)⟩
  · have hm' : len ≤ m := by rw [hmm]; split <;> omega
    have each : ∀ i, i < len → ∃ v : Bool, w.cell? ((y.add (i * 1)).add 0) = some (.bool v) := by
      intro i hlt
      obtain ⟨cs', h1, h2⟩ := hi i (by omega)
      have ce : Tryz.prog.cellsOf 4 = 1 := by kernel_rfl
      rw [ce] at h1
      obtain ⟨_, hlen, hcell⟩ := World.cells?_some h1
      match cs', hlen with
      | [c0], _ =>
        obtain ⟨v, e, _⟩ := DataW.trod_bool Tryz.underlying4 h2
        simp only [List.cons.injEq, and_true] at e
        subst e
        exact ⟨v, by simpa using hcell 0 (by decide)⟩
    obtain ⟨q, hq⟩ := choose_lt each
    refine ⟨⟨some y, len, cap⟩, q, hcs, fun hn => ?_⟩
    have hn' : 0 < len := hn
    obtain ⟨b, off, spot⟩ := y
    have h0 := hq 0 hn'
    have hs : spot = none := by simpa [Addr.add] using World.cell?_spot h0
    subst hs
    refine ⟨b, off, rfl, ?_, fun i hlt => ?_⟩
    · have := World.block_lt_of_cell? w _ h0
      simpa [Addr.add] using this
    · have := hq i hlt
      rw [Addr.add_lit, Addr.add_lit, Nat.mul_one] at this
      exact this
/-- Three of them. -/
def tri {α : Type} (a b c : α) : Nat → α
  | 0 => a
  | 1 => b
  | _ => c
theorem lists_in {H : Type} {enc : TypeId × Value → H} {w : World} {base : Nat} {spare : Nat → Bool} {held : Bool} {fuel : Nat} {c0 c1 c2 : Value} {x : DataW H × List MemPlace}
    (h : DataW.trod enc Tryz.prog w base spare held fuel 25 [c0, c1, c2] = some x) :
    ∃ (u : Nat → Ls.Sl) (f : Nat → List Int), [c0, c1, c2] = [.slice (u 0).a (u 0).n (u 0).c, .slice (u 1).a (u 1).n (u 1).c, .slice (u 2).a (u 2).n (u 2).c] ∧ Ls.L3 w w.heap.size u f ∧ (u 0).n + (u 1).n + (u 2).n ≤ Rows.uptoBulk x.1 := by
  obtain ⟨y0, y1, y2, n, rfl, h0, h1, h2⟩ := trod_array3 Tryz.underlying25 (by kernel_rfl) h
  obtain ⟨s0, z0, e0, r0, b0, _⟩ := ints_in h0
  obtain ⟨s1, z1, e1, r1, b1, _⟩ := ints_in h1
  obtain ⟨s2, z2, e2, r2, b2, _⟩ := ints_in h2
  simp only [List.cons.injEq, and_true] at e0 e1 e2
  refine ⟨tri s0 s1 s2, tri z0 z1 z2, by rw [e0, e1, e2]; rfl, fun j hj => ?_, ?_⟩
  · match j, hj with
    | 0, _ => exact r0
    | 1, _ => exact r1
    | 2, _ => exact r2
  · simp only [Rows.uptoBulk, Rows.uptoBulkAll, tri]
    omega
end Go.Proofs.YtgmkomnoiffapaaGreatDoor
end
section
namespace Go.Proofs.YtgmkomnoiffapaaGreatDoor
open Go.ChangeShapes Go.WideShapes Go.ChangeAt Go.RowKit Go.Deep
set_option maxRecDepth 100000

end Go.Proofs.YtgmkomnoiffapaaGreatDoor
end
section
namespace Go.Proofs.YtgmkomnoiffapaaGreatDoor
open Go.ChangeShapes Go.WideShapes Go.ChangeAt Go.RowKit Go.Deep

section
variable {H : Type} {enc : TypeId × Value → H} {P : Program} {w : World} {base : Nat} {spare : Nat → Bool} {held : Bool}

end
end Go.Proofs.YtgmkomnoiffapaaGreatDoor
end
section
namespace Go.Proofs.YtgmkomnoiffapaaGreatDoor
open Go.ChangeShapes Go.WideShapes Go.ChangeAt Go.RowKit Go.Deep
set_option maxRecDepth 100000

theorem pin_cap {H : Type} {enc : TypeId × Value → H} {w : World} {base : Nat} {spare : Nat → Bool} {held : Bool} {fuel : Nat} {cs : List Value} {x : DataW H × List MemPlace}
    (h : DataW.trod enc Tryz.prog w base spare held fuel 23 cs = some x) : ∃ (s : Ls.Sl) (f : Nat → Int × Int), cs = [.slice s.a s.n s.c] ∧ Cl.PRow w w.heap.size s.a s.n f ∧ s.n ≤ s.c := by
  rcases open_slice_pairs Tryz.underlying23 Tryz.underlying81 (by kernel_rfl) rfl rfl (by kernel_rfl) (by kernel_rfl) h with ⟨hcs, _⟩ | ⟨x, l, c, m, n, V0, V1, D0, D1, P0, P1, hcs, _, hl, hm, hmm, _, hi⟩
  · exact ⟨⟨none, 0, 0⟩, fun _ => (0, 0), hcs, Cl.PRow.empty _ _ _ _, Nat.le_refl _⟩
  · refine ⟨⟨some x, l, c⟩, fun i => (intOf (V0 i), intOf (V1 i)), hcs, fun hn => ?_, hl⟩
    have hn' : 0 < l := hn
    have hm' : l ≤ m := by rw [hmm]; split <;> omega
    obtain ⟨b, off, spot⟩ := x
    have h0 := (hi 0 (by omega)).1
    have hs : spot = none := by simpa [Addr.add] using World.cell?_spot h0
    subst hs
    refine ⟨b, off, rfl, ?_, fun i hlt => ?_⟩
    · have := World.block_lt_of_cell? w _ h0
      simpa [Addr.add] using this
    · have hlt' : i < l := hlt
      obtain ⟨g0, g1, t0, t1⟩ := hi i (by omega)
      rw [Addr.add_lit] at g0 g1
      rw [← Nat.add_assoc] at g1
      obtain ⟨z0, e0, _⟩ := DataW.trod_int Tryz.underlying3 t0
      obtain ⟨z1, e1, _⟩ := DataW.trod_int Tryz.underlying3 t1
      simp only [List.cons.injEq, and_true] at e0 e1
      refine ⟨?_, ?_⟩
      · show _ = some (Value.int .i64 (intOf (V0 i)))
        rw [g0, e0]
        rfl
      · show _ = some (Value.int .i64 (intOf (V1 i)))
        rw [g1, e1]
        rfl
theorem heap_of8 {H : Type} {enc : TypeId × Value → H} {w : World} {base b0 : Nat} {spare : Nat → Bool} {held : Bool} {v : Value} {d : DataW H} {p : List MemPlace} {r : Reach}
    (hv : Value.okWide Tryz.prog w r b0 28 v) (h : DataW.Trod enc Tryz.prog w base spare held 28 v d p) :
    ∃ (s : Hs) (e : Hd_), v = (.agg #[.slice s.w.a s.w.n s.w.c, .slice s.p.a s.p.n s.p.c, .slice (s.u 0).a (s.u 0).n (s.u 0).c, .slice (s.u 1).a (s.u 1).n (s.u 1).c, .slice (s.u 2).a (s.u 2).n (s.u 2).c, .slice s.c.a s.c.n s.c.c]) ∧ Hp w w.heap.size s e ∧ Fit64 e.ws ∧ s.p.n ≤ s.p.c := by
  obtain ⟨⟨l⟩, rfl, hsz⟩ := okWide_struct Tryz.underlying28 hv
  obtain ⟨fuel, hf⟩ := h
  obtain ⟨xs, k, _, hx, hl, hlen, hg⟩ := DataW.trod_struct Tryz.underlying28 hf
  have hl6 : l.length = 6 := hsz.trans (by kernel_rfl)
  match l, hl6, xs, hlen with
  | [c0, c1, c2, c3, c4, c5], _, [y0, y1, y2, y3], _ =>
    have e22 : Tryz.prog.cellsOf 22 = 1 := by kernel_rfl
    have e23 : Tryz.prog.cellsOf 23 = 1 := by kernel_rfl
    have e25 : Tryz.prog.cellsOf 25 = 3 := by kernel_rfl
    have e26 : Tryz.prog.cellsOf 26 = 1 := by kernel_rfl
    have g0 : DataW.trod enc Tryz.prog w base spare held k 22 [c0] = some y0 := by have := hg 0 _ rfl; simpa [e22, Value.cells] using this
    have g1 : DataW.trod enc Tryz.prog w base spare held k 23 [c1] = some y1 := by have := hg 1 _ rfl; simpa [e23, Value.cells] using this
    have g2 : DataW.trod enc Tryz.prog w base spare held k 25 [c2, c3, c4] = some y2 := by have := hg 2 _ rfl; simpa [e25, Value.cells] using this
    have g3 : DataW.trod enc Tryz.prog w base spare held k 26 [c5] = some y3 := by have := hg 3 _ rfl; simpa [e26, Value.cells] using this
    obtain ⟨s0, zs, h0, r0, _, f0⟩ := ints_in g0
    obtain ⟨s1, f1, h1, r1, c1'⟩ := pin_cap g1
    obtain ⟨u, F, h2, r2, _⟩ := lists_in g2
    obtain ⟨s3, f3, h3, r3⟩ := bools_in g3
    simp only [List.cons.injEq, and_true] at h0 h1 h2 h3
    obtain ⟨rfl, rfl, rfl⟩ := h2
    subst h0 h1 h3
    refine ⟨⟨s0, s1, u, s3⟩, ⟨zs, f1, F, f3⟩, rfl, ⟨r0.1, r1, r2, r3⟩, f0, c1'⟩
end Go.Proofs.YtgmkomnoiffapaaGreatDoor
end
section
namespace Go.Proofs.YtgmkomnoiffapaaGreatDoor.Sh
open Go.Proofs.YtgmkomnoiffapaaGreatDoor
open Go.ChangeShapes Go.WideShapes Go.ChangeAt Go.RowKit Go.Deep
set_option maxRecDepth 100000

theorem col_of {H : Type} {enc : TypeId × Value → H} {w : World} {base b0 : Nat} {spare : Nat → Bool} {held : Bool} {v : Value} {d : DataW H} {p : List MemPlace} {r : Reach}
    (hv : Value.okWide Tryz.prog w r b0 30 v) (h : DataW.Trod enc Tryz.prog w base spare held 30 v d p) :
    ∃ (k : Ks) (xs : List Int), v = (.agg #[.int .i64 k.ph, .int .i64 k.ep, .bool k.mj, .slice k.wk.a k.wk.n k.wk.c, .bool k.ov, .int .i64 k.pa, .int .i64 k.pf, .int .i64 k.ps, .int .i64 k.pc, .bool k.me]) ∧ WRow w w.heap.size k xs ∧ k.wk.n ≤ k.wk.c ∧ k.wk.c ≤ maxLen ∧ (Lit.int .i64 k.ep).wf = true := by
  obtain ⟨⟨l⟩, rfl, hsz⟩ := okWide_struct Tryz.underlying30 hv
  obtain ⟨fuel, hf⟩ := h
  obtain ⟨xs, k, _, hx, hl, hlen, hg⟩ := DataW.trod_struct Tryz.underlying30 hf
  have hl10 : l.length = 10 := hsz.trans (by kernel_rfl)
  match l, hl10, xs, hlen with
  | [c0, c1, c2, c3, c4, c5, c6, c7, c8, c9], _, [y0, y1, y2, y3, y4, y5, y6, y7, y8, y9], _ =>
    have e1 : Tryz.prog.cellsOf 3 = 1 := by kernel_rfl
    have e2 : Tryz.prog.cellsOf 4 = 1 := by kernel_rfl
    have e3 : Tryz.prog.cellsOf 22 = 1 := by kernel_rfl
    have g0 : DataW.trod enc Tryz.prog w base spare held k 3 [c0] = some y0 := by have := hg 0 _ rfl; simpa [e1, Value.cells] using this
    have g1 : DataW.trod enc Tryz.prog w base spare held k 3 [c1] = some y1 := by have := hg 1 _ rfl; simpa [e1, Value.cells] using this
    have g2 : DataW.trod enc Tryz.prog w base spare held k 4 [c2] = some y2 := by have := hg 2 _ rfl; simpa [e2, Value.cells] using this
    have g3 : DataW.trod enc Tryz.prog w base spare held k 22 [c3] = some y3 := by have := hg 3 _ rfl; simpa [e3, Value.cells] using this
    have g4 : DataW.trod enc Tryz.prog w base spare held k 4 [c4] = some y4 := by have := hg 4 _ rfl; simpa [e2, Value.cells] using this
    have g5 : DataW.trod enc Tryz.prog w base spare held k 3 [c5] = some y5 := by have := hg 5 _ rfl; simpa [e1, Value.cells] using this
    have g6 : DataW.trod enc Tryz.prog w base spare held k 3 [c6] = some y6 := by have := hg 6 _ rfl; simpa [e1, Value.cells] using this
    have g7 : DataW.trod enc Tryz.prog w base spare held k 3 [c7] = some y7 := by have := hg 7 _ rfl; simpa [e1, Value.cells] using this
    have g8 : DataW.trod enc Tryz.prog w base spare held k 3 [c8] = some y8 := by have := hg 8 _ rfl; simpa [e1, Value.cells] using this
    have g9 : DataW.trod enc Tryz.prog w base spare held k 4 [c9] = some y9 := by have := hg 9 _ rfl; simpa [e2, Value.cells] using this
    obtain ⟨n0, h0, _, _⟩ := DataW.trod_int Tryz.underlying3 g0
    obtain ⟨n1, h1, _, w1⟩ := DataW.trod_int Tryz.underlying3 g1
    obtain ⟨n2, h2, _⟩ := DataW.trod_bool Tryz.underlying4 g2
    obtain ⟨s3, zs, h3, r3, _, _⟩ := ints_in g3
    obtain ⟨n4, h4, _⟩ := DataW.trod_bool Tryz.underlying4 g4
    obtain ⟨n5, h5, _, _⟩ := DataW.trod_int Tryz.underlying3 g5
    obtain ⟨n6, h6, _, _⟩ := DataW.trod_int Tryz.underlying3 g6
    obtain ⟨n7, h7, _, _⟩ := DataW.trod_int Tryz.underlying3 g7
    obtain ⟨n8, h8, _, _⟩ := DataW.trod_int Tryz.underlying3 g8
    obtain ⟨n9, h9, _⟩ := DataW.trod_bool Tryz.underlying4 g9
    simp only [List.cons.injEq, and_true] at h0 h1 h2 h3 h4 h5 h6 h7 h8 h9
    subst h0 h1 h2 h3 h4 h5 h6 h7 h8 h9
    exact ⟨⟨n0, n1, n2, s3, n4, n5, n6, n7, n8, n9⟩, zs, rfl, r3.1, r3.2.1, r3.2.2, w1⟩
end Go.Proofs.YtgmkomnoiffapaaGreatDoor.Sh
end
section
namespace Go.Proofs.YtgmkomnoiffapaaGreatDoor.Rt
open Go.Proofs.YtgmkomnoiffapaaGreatDoor
open Go.ChangeShapes Go.WideShapes Go.ChangeAt Go.RowKit Go.Deep
set_option maxRecDepth 100000

section
variable {H : Type} {enc : TypeId × Value → H} {w : World} {base : Nat} {spare : Nat → Bool} {held : Bool}
theorem ints_in {fuel : Nat} {cs : List Value} {x : DataW H × List MemPlace} (h : DataW.trod enc Tryz.prog w base spare held fuel 22 cs = some x) :
    ∃ (s : Ls.Sl) (zs : List Int), cs = [.slice s.a s.n s.c] ∧ Row w w.heap.size s.a s.n zs ∧ s.n ≤ s.c ∧ s.c ≤ maxLen := by
  rcases open_ints Tryz.underlying22 Tryz.underlying3 (by kernel_rfl) h with ⟨rfl, rfl⟩ | ⟨y, len, cap, zs, rfl, _, hl, hm, hz, rfl, hcell, hwz⟩
  · exact ⟨⟨none, 0, 0⟩, [], rfl, Row.none_ _ _, Nat.le_refl _, by show (0 : Nat) ≤ maxLen; unfold maxLen; omega⟩
  · have hz' : len ≤ zs.length := by rw [hz]; split <;> omega
    refine ⟨⟨some y, len, cap⟩, zs.take len, rfl, ⟨by simp; omega, fun hn => ?_⟩, hl, hm⟩
    have hn' : 0 < len := hn
    obtain ⟨b, off, spot⟩ := y
    have h0 := hcell 0 (by omega)
    have hs : spot = none := by simpa [Addr.add] using World.cell?_spot h0
    subst hs
    refine ⟨b, off, rfl, ?_, fun i hi => ?_⟩
    · have := World.block_lt_of_cell? w _ h0
      simpa [Addr.add] using this
    · have hi' : i < len := hi
      have := hcell i (by omega)
      rw [Addr.add_lit] at this
      rw [this]
      simp [List.getD, hi']
def tri {α : Type} (a b c : α) : Nat → α
  | 0 => a
  | 1 => b
  | _ => c
def four {α : Type} (a b c d : α) : Nat → α
  | 0 => a
  | 1 => b
  | 2 => c
  | _ => d
theorem lists_in {fuel : Nat} {c0 c1 c2 : Value} {x : DataW H × List MemPlace} (h : DataW.trod enc Tryz.prog w base spare held fuel 25 [c0, c1, c2] = some x) :
    ∃ (u : Nat → Ls.Sl) (f : Nat → List Int), c0 = .slice (u 0).a (u 0).n (u 0).c ∧ c1 = .slice (u 1).a (u 1).n (u 1).c ∧ c2 = .slice (u 2).a (u 2).n (u 2).c ∧ Ls.L3 w w.heap.size u f := by
  obtain ⟨y0, y1, y2, n, rfl, h0, h1, h2⟩ := trod_array3 Tryz.underlying25 (by kernel_rfl) h
  obtain ⟨s0, z0, e0, r0⟩ := ints_in h0
  obtain ⟨s1, z1, e1, r1⟩ := ints_in h1
  obtain ⟨s2, z2, e2, r2⟩ := ints_in h2
  simp only [List.cons.injEq, and_true] at e0 e1 e2
  refine ⟨tri s0 s1 s2, tri z0 z1 z2, e0, e1, e2, fun j hj => ?_⟩
  match j, hj with
  | 0, _ => exact r0
  | 1, _ => exact r1
  | 2, _ => exact r2
theorem ops_in {fuel : Nat} {cs : List Value} {x : DataW H × List MemPlace} (h : DataW.trod enc Tryz.prog w base spare held fuel 32 cs = some x) :
    ∃ (s : Ls.Sl) (g : Nat → O4), cs = [.slice s.a s.n s.c] ∧ ORow w w.heap.size s.a s.n g ∧ s.n ≤ s.c := by
  rcases open_slice Tryz.underlying32 h with ⟨hcs, _⟩ | ⟨y, len, cap, m, k, D, Pl, hcs, _, hl, hm, hmm, _, hi⟩
  · exact ⟨⟨none, 0, 0⟩, fun _ => ⟨0, 0, 0, 0⟩, hcs, ORow.empty _ _ _ _, Nat.le_refl _⟩
  · have hm' : len ≤ m := by rw [hmm]; split <;> omega
    have ce : Tryz.prog.cellsOf 39 = 4 := by kernel_rfl
    have e1 : Tryz.prog.cellsOf 3 = 1 := by kernel_rfl
    have each : ∀ i, i < len → ∃ q : O4, w.cell? ((y.add (i * 4)).add 0) = some (.int .i64 q.k) ∧ w.cell? ((y.add (i * 4)).add 1) = some (.int .i64 q.a) ∧ w.cell? ((y.add (i * 4)).add 2) = some (.int .i64 q.b) ∧ w.cell? ((y.add (i * 4)).add 3) = some (.int .i64 q.c) := by
      intro i hlt
      obtain ⟨cs', h1, h2⟩ := hi i (by omega)
      rw [ce] at h1
      obtain ⟨_, hlen, hcell⟩ := World.cells?_some h1
      obtain ⟨xs, k', _, _, _, hxl, hg⟩ := DataW.trod_struct Tryz.underlying39 h2
      match xs, hxl, cs', hlen with
      | [y0, y1, y2, y3], _, [c0, c1, c2, c3], _ =>
        have g0 : DataW.trod enc Tryz.prog w base spare held k' 3 [c0] = some y0 := by have := hg 0 _ rfl; simpa [e1, Value.cells] using this
        have g1 : DataW.trod enc Tryz.prog w base spare held k' 3 [c1] = some y1 := by have := hg 1 _ rfl; simpa [e1, Value.cells] using this
        have g2 : DataW.trod enc Tryz.prog w base spare held k' 3 [c2] = some y2 := by have := hg 2 _ rfl; simpa [e1, Value.cells] using this
        have g3 : DataW.trod enc Tryz.prog w base spare held k' 3 [c3] = some y3 := by have := hg 3 _ rfl; simpa [e1, Value.cells] using this
        obtain ⟨n0, a0, _, _⟩ := DataW.trod_int Tryz.underlying3 g0
        obtain ⟨n1, a1, _, _⟩ := DataW.trod_int Tryz.underlying3 g1
        obtain ⟨n2, a2, _, _⟩ := DataW.trod_int Tryz.underlying3 g2
        obtain ⟨n3, a3, _, _⟩ := DataW.trod_int Tryz.underlying3 g3
        simp only [List.cons.injEq, and_true] at a0 a1 a2 a3
        subst a0 a1 a2 a3
        exact ⟨⟨n0, n1, n2, n3⟩, by simpa using hcell 0 (by decide), by simpa using hcell 1 (by decide), by simpa using hcell 2 (by decide), by simpa using hcell 3 (by decide)⟩
    haveI : Inhabited O4 := ⟨⟨0, 0, 0, 0⟩⟩
    obtain ⟨q, hq⟩ := choose_lt each
    refine ⟨⟨some y, len, cap⟩, q, hcs, fun hn => ?_, hl⟩
    obtain ⟨b, off, spot⟩ := y
    have h0 := (hq 0 hn).1
    have hs : spot = none := by simpa [Addr.add] using World.cell?_spot h0
    subst hs
    refine ⟨b, off, rfl, ?_, fun i hlt => ?_⟩
    · have := World.block_lt_of_cell? w _ h0
      simpa [Addr.add] using this
    · have := hq i hlt
      simp only [Addr.add_lit, Nat.add_zero] at this
      exact this
theorem th_in {fuel : Nat} {l : List Value} {x : DataW H × List MemPlace} (h : DataW.trod enc Tryz.prog w base spare held fuel 34 l = some x) (hl15 : l.length = 15) :
    ∃ (t : Ts) (F : Nat → List Int) (g : Nat → O4), l = tv t ∧ Th w w.heap.size t F g ∧ ∀ j, (Lit.int .i64 (t.r j)).wf = true := by
  obtain ⟨xs, k, _, hx, hl, hlen, hg⟩ := DataW.trod_struct Tryz.underlying34 h
  match l, hl15, xs, hlen with
  | [c0, c1, c2, c3, c4, c5, c6, c7, c8, c9, c10, c11, c12, c13, c14], _, [y0, y1, y2, y3, y4, y5, y6, y7, y8, y9], _ =>
    have e1 : Tryz.prog.cellsOf 3 = 1 := by kernel_rfl
    have e2 : Tryz.prog.cellsOf 4 = 1 := by kernel_rfl
    have e3 : Tryz.prog.cellsOf 32 = 1 := by kernel_rfl
    have e4 : Tryz.prog.cellsOf 31 = 4 := by kernel_rfl
    have e5 : Tryz.prog.cellsOf 25 = 3 := by kernel_rfl
    have g0 : DataW.trod enc Tryz.prog w base spare held k 4 [c0] = some y0 := by have := hg 0 _ rfl; simpa [e2, Value.cells] using this
    have g1 : DataW.trod enc Tryz.prog w base spare held k 31 [c1, c2, c3, c4] = some y1 := by have := hg 1 _ rfl; simpa [e4, Value.cells] using this
    have g2 : DataW.trod enc Tryz.prog w base spare held k 25 [c5, c6, c7] = some y2 := by have := hg 2 _ rfl; simpa [e5, Value.cells] using this
    have g3 : DataW.trod enc Tryz.prog w base spare held k 3 [c8] = some y3 := by have := hg 3 _ rfl; simpa [e1, Value.cells] using this
    have g4 : DataW.trod enc Tryz.prog w base spare held k 3 [c9] = some y4 := by have := hg 4 _ rfl; simpa [e1, Value.cells] using this
    have g5 : DataW.trod enc Tryz.prog w base spare held k 3 [c10] = some y5 := by have := hg 5 _ rfl; simpa [e1, Value.cells] using this
    have g6 : DataW.trod enc Tryz.prog w base spare held k 32 [c11] = some y6 := by have := hg 6 _ rfl; simpa [e3, Value.cells] using this
    have g7 : DataW.trod enc Tryz.prog w base spare held k 3 [c12] = some y7 := by have := hg 7 _ rfl; simpa [e1, Value.cells] using this
    have g8 : DataW.trod enc Tryz.prog w base spare held k 3 [c13] = some y8 := by have := hg 8 _ rfl; simpa [e1, Value.cells] using this
    have g9 : DataW.trod enc Tryz.prog w base spare held k 3 [c14] = some y9 := by have := hg 9 _ rfl; simpa [e1, Value.cells] using this
    obtain ⟨n0, h0, _⟩ := DataW.trod_bool Tryz.underlying4 g0
    obtain ⟨q0, q1, q2, q3, k', _, p0, p1, p2, p3⟩ := trod_array4 Tryz.underlying31 (by kernel_rfl) g1
    obtain ⟨r0, a0, _, b0⟩ := DataW.trod_int Tryz.underlying3 p0
    obtain ⟨r1, a1, _, b1⟩ := DataW.trod_int Tryz.underlying3 p1
    obtain ⟨r2, a2, _, b2⟩ := DataW.trod_int Tryz.underlying3 p2
    obtain ⟨r3, a3, _, b3⟩ := DataW.trod_int Tryz.underlying3 p3
    obtain ⟨u, F, u0, u1, u2, hu⟩ := lists_in g2
    obtain ⟨n3, h3, _, _⟩ := DataW.trod_int Tryz.underlying3 g3
    obtain ⟨n4, h4, _, _⟩ := DataW.trod_int Tryz.underlying3 g4
    obtain ⟨n5, h5, _, _⟩ := DataW.trod_int Tryz.underlying3 g5
    obtain ⟨o, g, h6, ho, hk⟩ := ops_in g6
    obtain ⟨n7, h7, _, _⟩ := DataW.trod_int Tryz.underlying3 g7
    obtain ⟨n8, h8, _, _⟩ := DataW.trod_int Tryz.underlying3 g8
    obtain ⟨n9, h9, _, _⟩ := DataW.trod_int Tryz.underlying3 g9
    simp only [List.cons.injEq, and_true] at h0 a0 a1 a2 a3 h3 h4 h5 h6 h7 h8 h9
    subst h0 a0 a1 a2 a3 u0 u1 u2 h3 h4 h5 h6 h7 h8 h9
    exact ⟨⟨n0, four r0 r1 r2 r3, u, n3, n4, n5, o, n7, n8, n9⟩, F, g, rfl, ⟨hu, ho, hk⟩, fun j => (match j with | 0 => b0 | 1 => b1 | 2 => b2 | _ + 3 => b3)⟩
theorem th_fits {b0 : Nat} {v : Value} {d : DataW H} {p : List MemPlace} {r : Reach} (hv : Value.okWide Tryz.prog w r b0 34 v) (h : DataW.Trod enc Tryz.prog w base spare held 34 v d p) :
    ∃ (t : Ts) (F : Nat → List Int) (g : Nat → O4), v = (.agg #[.bool t.lv, .int .i64 (t.r 0), .int .i64 (t.r 1), .int .i64 (t.r 2), .int .i64 (t.r 3), .slice (t.u 0).a (t.u 0).n (t.u 0).c, .slice (t.u 1).a (t.u 1).n (t.u 1).c, .slice (t.u 2).a (t.u 2).n (t.u 2).c, .int .i64 t.ep, .int .i64 t.sg, .int .i64 t.rt, .slice t.o.a t.o.n t.o.c, .int .i64 t.pc, .int .i64 t.x, .int .i64 t.y]) ∧ Th w w.heap.size t F g ∧ ∀ j, (Lit.int .i64 (t.r j)).wf = true := by
  obtain ⟨⟨l⟩, rfl, hsz⟩ := okWide_struct Tryz.underlying34 hv
  obtain ⟨fuel, hf⟩ := h
  obtain ⟨t, F, g, e, h1, h2⟩ := th_in hf (hsz.trans (by kernel_rfl))
  have e : l = tv t := e
  subst e
  exact ⟨t, F, g, rfl, h1, h2⟩
theorem th_of {b0 : Nat} {v : Value} {d : DataW H} {p : List MemPlace} {r : Reach} (hv : Value.okWide Tryz.prog w r b0 34 v) (h : DataW.Trod enc Tryz.prog w base spare held 34 v d p) :
    ∃ (t : Ts) (F : Nat → List Int) (g : Nat → O4), v = (.agg #[.bool t.lv, .int .i64 (t.r 0), .int .i64 (t.r 1), .int .i64 (t.r 2), .int .i64 (t.r 3), .slice (t.u 0).a (t.u 0).n (t.u 0).c, .slice (t.u 1).a (t.u 1).n (t.u 1).c, .slice (t.u 2).a (t.u 2).n (t.u 2).c, .int .i64 t.ep, .int .i64 t.sg, .int .i64 t.rt, .slice t.o.a t.o.n t.o.c, .int .i64 t.pc, .int .i64 t.x, .int .i64 t.y]) ∧ Th w w.heap.size t F g := by
  obtain ⟨t, F, g, e, h, _⟩ := th_fits hv h
  exact ⟨t, F, g, e, h⟩
end
end Go.Proofs.YtgmkomnoiffapaaGreatDoor.Rt
end
