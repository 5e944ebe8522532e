/-
  Merged texts: HpInv, HpSetP, HpSetA, HpKeep, HpReg, CkAllP.
-/
import Derived.Test.YtmalopciboikhaaDoorHpCE
import Derived.Test.YtmalopciboikhaaDoorHpCF
import Derived.Test.YtmalopciboikhaaDoorHpCG
section
namespace Go.Proofs.YtmalopciboikhaaDoor
open Go.RowKit

section
variable {P : Program} {ops : Array Oper} {Q : Exit → Act → World → Prop} {md : Region.Mode}
theorem wpAny_inv (Inv : (Nat → Bool) → Act → World → Prop) (hdag : ∀ (i : Nat) (o : Oper), ops[i]? = some o → ∀ e ∈ o.after, Region.binds md e = true → e.on < i)
    (hstep : ∀ (i : Nat) (o : Oper) (l : Nat → Bool) (a : Act) (w : World), ops[i]? = some o → Inv l a w → l i = false → (∀ e ∈ o.after, Region.binds md e = true → l e.on = true) → ∀ K : Act → World → Prop, (∀ a' w', Inv (Ls.upd l i true) a' w' → K a' w') → wpOp P ops Q i K a w)
    (hdone : ∀ (l : Nat → Bool) (a : Act) (w : World), Inv l a w → (∀ i, i < ops.size → l i = true) → Q .normal a w) :
    ∀ (fuel : Nat) (listed : Array Bool) (l : Nat → Bool) (a : Act) (w : World), listed.size = ops.size → (∀ j, j < ops.size → listed.getD j true = l j) → Ls.todo ops.size l ≤ fuel → Inv l a w → wpAny P md ops Q fuel listed a w := by
  intro fuel
  induction fuel with
  | zero =>
    intro listed l a w hs hl ht hi
    have hall := Ls.todo_none ops.size (Nat.le_zero.1 ht)
    refine ⟨List.eq_nil_iff_forall_not_mem.2 fun j hj => ?_, hdone l a w hi hall⟩
    obtain ⟨h1, o, ho, _⟩ := mem_ready.1 hj
    have hlt : j < ops.size := (Array.getElem?_eq_some_iff.1 ho).1
    rw [hl j hlt, hall j hlt] at h1
    cases h1
  | succ fuel ih =>
    intro listed l a w hs hl ht hi
    refine ⟨fun hr => hdone l a w hi ?_, fun i hri => ?_⟩
    · intro i
      induction i using Nat.strongRecOn with
      | ind i ihi =>
        intro hlt
        cases hli : l i with
        | true => rfl
        | false =>
          have ho : ops[i]? = some ops[i] := Array.getElem?_eq_getElem hlt
          have : i ∈ Region.ready md ops listed := mem_ready.2 ⟨by rw [hl i hlt]; exact hli, _, ho, fun e he hbd => by
            have hlo := hdag i _ ho e he hbd
            have h1 := ihi e.on hlo (by omega)
            rw [← hl e.on (by omega)] at h1
            rw [Array.getD_eq_getD_getElem?] at h1 ⊢
            rw [Array.getElem?_eq_getElem (by omega)] at h1 ⊢
            exact h1⟩
          rw [hr] at this
          cases this
    · obtain ⟨h1, o, ho, ha⟩ := mem_ready.1 hri
      have hlt : i < ops.size := (Array.getElem?_eq_some_iff.1 ho).1
      rw [hl i hlt] at h1
      refine hstep i o l a w ho hi h1 (fun e he hb => ?_) _ (fun a' w' hi' => ih _ (Ls.upd l i true) a' w' (by simpa using hs) (fun j hj => ?_) ?_ hi')
      · have h2 := ha e he hb
        have hlo := hdag i o ho e he hb
        rw [← hl e.on (by omega)]
        rw [Array.getD_eq_getD_getElem?] at h2 ⊢
        rw [Array.getElem?_eq_getElem (by omega)] at h2 ⊢
        exact h2
      · by_cases e : j = i
        · subst e
          rw [Ls.upd_same, Array.getD_eq_getD_getElem?, Array.getElem?_setIfInBounds_self_of_lt (by omega)]
          rfl
        · rw [Ls.upd_other _ _ e, Array.getD_eq_getD_getElem?, Array.getElem?_setIfInBounds_ne (fun h => e h.symm), ← Array.getD_eq_getD_getElem?]
          exact hl j hj
      · have := Ls.todo_upd h1 ops.size hlt
        omega
theorem wp_region_from {id : Nat} {a : Act} {w : World} (hm : P.follows .mixedOrders = true) (Inv : Act → (Nat → Bool) → Act → World → Prop) (hdag : ∀ (i : Nat) (o : Oper), ops[i]? = some o → ∀ e ∈ o.after, Region.binds .any e = true → e.on < i)
    (hstart : Inv a (fun _ => false) a w.drew)
    (hstep : ∀ (i : Nat) (o : Oper) (l : Nat → Bool) (a' : Act) (w : World), ops[i]? = some o → Inv a l a' w → l i = false → (∀ e ∈ o.after, Region.binds .any e = true → l e.on = true) → ∀ K : Act → World → Prop, (∀ a'' w', Inv a (Ls.upd l i true) a'' w' → K a'' w') → wpOp P ops Q i K a' w)
    (hdone : ∀ (l : Nat → Bool) (a' : Act) (w : World), Inv a l a' w → (∀ i, i < ops.size → l i = true) → Q .normal a' w) : (Code.region id ops true).wp P Q a w :=
  wp_region_any hm (wpAny_inv (Inv a) hdag hstep hdone ops.size _ (fun _ => false) a w.drew (by simp) (fun j hj => by
    rw [Array.getD_eq_getD_getElem?, Array.getElem?_replicate, if_pos hj]
    rfl) (Ls.todo_le _ _) hstart)
/-- The edges that bind lead back. -/
def backAny (ops : Array Oper) : Bool := (List.range ops.size).all fun i => ((ops[i]?).map fun o => o.after.all fun e => !Region.binds .any e || decide (e.on < i)).getD true
theorem dag_any {ops : Array Oper} (h : backAny ops = true) : ∀ (i : Nat) (o : Oper), ops[i]? = some o → ∀ e ∈ o.after, Region.binds .any e = true → e.on < i := by
  intro i o ho e he hb
  have hi : i < ops.size := (Array.getElem?_eq_some_iff.1 ho).1
  have := List.all_eq_true.1 h i (List.mem_range.2 hi)
  rw [ho] at this
  simp only [Option.map_some, Option.getD_some] at this
  have := Array.all_eq_true_iff_forall_mem.1 this e he
  rw [hb] at this
  simpa using this
theorem wpOp_of {i : Nat} {o : Oper} {a : Act} {w : World} {K : Act → World → Prop} (ho : ops[i]? = some o)
    (h : if Region.wanted o (yielded ops a.tmps) = true then o.wp P a w K Q else K (a.put o.dst undef) w) : wpOp P ops Q i K a w := by
  unfold wpOp
  rw [ho]
  simp only
  split
  · next hw => rw [if_pos hw] at h; exact .inl h
  · next hw => rw [if_neg hw] at h; exact h
end
end Go.Proofs.YtmalopciboikhaaDoor
end
section
namespace Go.Proofs.YtmalopciboikhaaDoor
open Go.RowKit
set_option maxRecDepth 100000

/-- Another head with as many fields stands at a; all else is as it was. -/
structure Turned (s t : Hs) (d d' : Hd_) (a : Int) : Prop where
  len : Lens s t
  f : d'.f = d.f
  F : d'.F = d.F
  oth : ∀ y, 16 ≤ y → ¬ y = a → wd d' y = wd d y
  w1 : Hd.isWord (wd d' a) = true ∧ wd d' a % 2 = 1
  w2 : Hd.isWord (wd d a) = true ∧ wd d a % 2 = 1
  n : nOf (wd d' a) = nOf (wd d a)
section
variable {s t : Hs} {d d' : Hd_} {a : Int}
theorem Turned.word (h : Turned s t d d' a) {y : Int} (hy : 16 ≤ y) : Hd.isWord (wd d' y) = Hd.isWord (wd d y) ∧ (wd d' y % 2 = 1 ↔ wd d y % 2 = 1) ∧ nOf (wd d' y) = nOf (wd d y) ∧ (wd d' y = 0 ↔ wd d y = 0) := by
  by_cases e : y = a
  · subst e
    have h1 := h.w1
    have h2 := h.w2
    exact ⟨h1.1.trans h2.1.symm, ⟨fun _ => h2.2, fun _ => h1.2⟩, h.n, ⟨fun e => by omega, fun e => by omega⟩⟩
  · rw [h.oth y hy e]
    exact ⟨rfl, Iff.rfl, rfl, Iff.rfl⟩
theorem Turned.cell (h : Turned s t d d' a) {y : Int} (hy : 16 ≤ y) : cellAt d' y = cellAt d y := by
  obtain ⟨h1, h2, h3, _⟩ := h.word hy
  unfold cellAt cellB
  rw [h.f, show d'.ws.getD (y - 16).toNat 0 = wd d' y from rfl, show d.ws.getD (y - 16).toNat 0 = wd d y from rfl]
  by_cases hc : Hd.isWord (wd d y) = true ∧ wd d y % 2 = 1
  · have hc' : Hd.isWord (wd d' y) = true ∧ wd d' y % 2 = 1 := ⟨h1.trans hc.1, h2.2 hc.2⟩
    rw [if_pos hc, if_pos hc', h3]
  · have hc' : ¬ (Hd.isWord (wd d' y) = true ∧ wd d' y % 2 = 1) := fun e => hc ⟨h1.symm.trans e.1, h2.1 e.2⟩
    rw [if_neg hc, if_neg hc', h1]
theorem bg_in16 {f : Nat → Int × Int} {n : Nat} {y : Int} (h : ¬ Cl.bg f n y = 0) : 16 ≤ y :=
  Classical.byContradiction fun hn => h (Cl.bg_no fun e => hn e.2.1)
theorem Turned.freeH (h : Turned s t d d' a) (n : Nat) (y c : Int) : freeH d' n y c = Go.Proofs.YtmalopciboikhaaDoor.freeH d n y c := by
  unfold Go.Proofs.YtmalopciboikhaaDoor.freeH
  rw [h.f]
  by_cases hb : Cl.bg d.f n y = 0
  · rw [if_pos hb, if_pos hb]
  · rw [if_neg hb, if_neg hb]
    have h4 := (h.word (bg_in16 hb)).2.2.2
    rw [show d'.ws.getD (y - 16).toNat 0 = wd d' y from rfl, show d.ws.getD (y - 16).toNat 0 = wd d y from rfl]
    congr 1
    rw [Bool.eq_iff_iff, beq_iff_eq, beq_iff_eq]
    exact h4
theorem Turned.may (h : Turned s t d d' a) (m : Nat) (F : Nat → Nat → List Int) : mayH t d' m F = mayH s d m F := by
  unfold mayH firstB freeAll
  rw [h.len.1, h.len.2.1, h.len.2.2.2, h.f, h.F, all_congr fun y hy => h.cell (allS_in hy).1]
  simp only [h.freeH]
theorem Turned.may0 (h : Turned s t d d' a) : mayB0 t d' = mayB0 s d := h.may 0 noCaches
theorem Turned.used (h : Turned s t d d' a) : usedL t d' = usedL s d := by
  unfold usedL usedF
  rw [h.may0, h.f, h.len.2.1]
  split
  · refine List.filter_congr fun y hy => ?_
    rw [decide_eq_decide]
    exact (h.word (allS_in hy).1).2.1
  · rfl
theorem Turned.whole (h : Turned s t d d' a) (m : Nat) (F : Nat → Nat → List Int) : wholeH t d' m F = wholeH s d m F := by
  unfold wholeH
  rw [h.may, h.f, h.F, h.len.2.1]
  congr 1
  refine all_congr fun y hy => ?_
  congr 2
  rw [Bool.eq_iff_iff, beq_iff_eq, beq_iff_eq]
  exact (h.word (allS_in hy).1).2.2.2
theorem Turned.headE (h : Turned s t d d' a) (y : Int) : headE t d' y = Go.Proofs.YtmalopciboikhaaDoor.headE s d y := by
  unfold Go.Proofs.YtmalopciboikhaaDoor.headE
  rw [h.may0, h.f, h.len.2.1]
  by_cases hm : mayB0 s d = false
  · rw [if_pos hm, if_pos hm]
  · rw [if_neg hm, if_neg hm]
    by_cases hb : Cl.bg d.f s.p.n y = 0
    · rw [if_pos (Or.inl hb), if_pos (Or.inl hb)]
    · have h4 := (h.word (bg_in16 hb)).2.2.2
      by_cases hw : wd d y = 0
      · rw [if_pos (Or.inr hw), if_pos (Or.inr (h4.2 hw))]
      · rw [if_neg (by rintro (e | e); exact hb e; exact hw (h4.1 e)), if_neg (by rintro (e | e); exact hb e; exact hw e)]
theorem Turned.headV (h : Turned s t d d' a) {y : Int} (hy : ¬ y = a) : headV t d' y = Go.Proofs.YtmalopciboikhaaDoor.headV s d y := by
  unfold Go.Proofs.YtmalopciboikhaaDoor.headV
  rw [h.headE]
  split
  · next he =>
    unfold Go.Proofs.YtmalopciboikhaaDoor.headE at he
    split at he
    · omega
    · split at he
      · omega
      · next hn => rw [h.oth y (bg_in16 fun e => hn (.inl e)) hy]
  · rfl
end
end Go.Proofs.YtmalopciboikhaaDoor
end
section
namespace Go.Proofs.YtmalopciboikhaaDoor
open Go.RowKit
set_option maxRecDepth 100000

/-- What a walk through Set has in memory: the heap's box, the head's, the result's. -/
structure St (w W : World) (s : Hs) (d : Hd_) (u o e : Bool) (n b m : Int) : Prop where
  bel : Below w.heap.size w W
  hb : HBox W w.heap.size s
  xb : X6 W (w.heap.size + 1) u o e n b m
  rb : Box6 W (w.heap.size + 2) noHs
  hp : Hp W W.heap.size s d
theorem St.next {w W W' : World} {s : Hs} {d : Hd_} {u o e : Bool} {n b m : Int} (h : St w W s d u o e n b m) (hb : Below W.heap.size W W') : St w W' s d u o e n b m :=
  ⟨h.bel.trans (hb.mono h.bel.size), h.hb.next hb, h.xb.next hb, h.rb.next hb, h.hp.next hb⟩
section
variable (s : Hs) (d : Hd_) (a : Int) (u o e : Bool) (n b m : Int) (w : World)
end
end Go.Proofs.YtmalopciboikhaaDoor
end
section
namespace Go.Proofs.YtmalopciboikhaaDoor
open Go.RowKit
set_option maxRecDepth 100000

/-- The other heap, in its box. -/
structure BB (W : World) (bb : Nat) (t : Hs) (d : Hd_) : Prop where
  box : HBox W bb t
  hp : Hp W W.heap.size t d
theorem BB.next {W W' : World} {bb : Nat} {t : Hs} {d : Hd_} (h : BB W bb t d) (hb : Below W.heap.size W W') : BB W' bb t d := ⟨h.box.next hb, h.hp.next hb⟩
structure KS (w W : World) (s t : Hs) (d d' : Hd_) (u o e : Bool) (n b m : Int) (bb : Nat) (A : Option Addr) (k : Nat) (us : List Int) : Prop where
  h : HNow w W s d
  x : X6 W (w.heap.size + 1) u o e n b m
  b : BB W bb t d'
  r : Row W W.heap.size A k us
theorem KS.next {w W W' : World} {s t : Hs} {d d' : Hd_} {u o e : Bool} {n b m : Int} {bb : Nat} {A : Option Addr} {k : Nat} {us : List Int} (h : KS w W s t d d' u o e n b m bb A k us) (hb : Below W.heap.size W W') : KS w W' s t d d' u o e n b m bb A k us :=
  ⟨h.h.next hb, h.x.next hb, h.b.next hb, (h.r.below hb).more hb.size⟩
/-- A head is stored into a box that was made. -/
theorem x6_put {W : World} {b : Nat} (h : XBox W b) (x0 x1 x2 : Bool) (x3 x4 x5 : Int) : X6 (put6 W b (.bool x0) (.bool x1) (.bool x2) (.int .i64 x3) (.int .i64 x4) (.int .i64 x5)) b x0 x1 x2 x3 x4 x5 := by
  have h0 := h.cell 0 (by decide)
  have h1 := h.cell 1 (by decide)
  have h2 := h.cell 2 (by decide)
  have h3 := h.cell 3 (by decide)
  have h4 := h.cell 4 (by decide)
  have h5 := h.cell 5 (by decide)
  refine ⟨?_, ?_, ?_, ?_, ?_, ?_, by rw [put6_size]; exact h.lt⟩ <;> simp [put6, go_sem, h0, h1, h2, h3, h4, h5]
theorem below_drew0 (w : World) : Below w.heap.size w w.drew := below_drawn' (Below.refl _ _) 1
section
variable {wr W : World} {bb br o : Nat} {t : Hs} {v : Value} (h : HBox wr bb t ∧ br < wr.heap.size ∧ wr.cell? ⟨br, o, none⟩ = some v)
include h
end
end Go.Proofs.YtmalopciboikhaaDoor
end
section
namespace Go.Proofs.YtmalopciboikhaaDoor
open Go.RowKit
set_option maxRecDepth 100000

structure RSt (wr wc : World) (l : Nat → Bool) (x13 x14 x48 x49 x50 x51 x52 x53 x54 x55 x56 : Value) (HV A kV pV yV : Value) (v0 v1 v2 : Bool) (v3 v4 v5 : Int) (b9 : Nat) : Prop where
  bel : Below wr.heap.size wr wc
  s0 : l 0 = true → x49 = HV
  s1 : l 1 = true → x50 = A
  s2 : l 2 = true → x51 = kV
  s3 : l 3 = true → x52 = pV
  s4 : l 4 = true → x53 = yV
  s5 : l 5 = true → x54 = (.tuple #[(.agg #[.bool v0, .bool v1, .bool v2, .int .i64 v3, .int .i64 v4, .int .i64 v5]), .int .i64 0])
  s6 : l 6 = true → x48 = (.tuple #[(.agg #[.bool v0, .bool v1, .bool v2, .int .i64 v3, .int .i64 v4, .int .i64 v5]), .int .i64 0])
  s7 : l 7 = true → x55 = (.agg #[.bool v0, .bool v1, .bool v2, .int .i64 v3, .int .i64 v4, .int .i64 v5])
  s8 : l 8 = true → x56 = .int .i64 0
  s9 : l 9 = true → x13 = .pointer (some ⟨b9, 0, none⟩) ∧ wr.heap.size ≤ b9 ∧ (if l 10 = true then X6 wc b9 v0 v1 v2 v3 v4 v5 else XBox wc b9)
  s11 : l 11 = true → x14 = .int .i64 0
  o10 : l 10 = true → l 9 = true ∧ l 5 = true
section
variable {wr wc wc' : World} {l : Nat → Bool} {x13 x14 x48 x49 x50 x51 x52 x53 x54 x55 x56 : Value} {HV A kV pV yV : Value} {v0 v1 v2 : Bool} {v3 v4 v5 : Int} {b9 : Nat}
theorem RSt.start (x13 x14 x48 x49 x50 x51 x52 x53 x54 x55 x56 : Value) : RSt wr wr.drew (fun _ => false) x13 x14 x48 x49 x50 x51 x52 x53 x54 x55 x56 HV A kV pV yV v0 v1 v2 v3 v4 v5 0 :=
  ⟨below_drew0 wr, (fun h => by cases h), (fun h => by cases h), (fun h => by cases h), (fun h => by cases h), (fun h => by cases h), (fun h => by cases h), (fun h => by cases h), (fun h => by cases h), (fun h => by cases h), (fun h => by cases h), (fun h => by cases h), (fun h => by cases h)⟩
theorem RSt.did0 (h : RSt wr wc l x13 x14 x48 x49 x50 x51 x52 x53 x54 x55 x56 HV A kV pV yV v0 v1 v2 v3 v4 v5 b9) : RSt wr wc (Ls.upd l 0 true) x13 x14 x48 HV x50 x51 x52 x53 x54 x55 x56 HV A kV pV yV v0 v1 v2 v3 v4 v5 b9 := ⟨h.bel, fun _ => rfl, h.s1, h.s2, h.s3, h.s4, h.s5, h.s6, h.s7, h.s8, h.s9, h.s11, h.o10⟩
theorem RSt.did1 (h : RSt wr wc l x13 x14 x48 x49 x50 x51 x52 x53 x54 x55 x56 HV A kV pV yV v0 v1 v2 v3 v4 v5 b9) : RSt wr wc (Ls.upd l 1 true) x13 x14 x48 x49 A x51 x52 x53 x54 x55 x56 HV A kV pV yV v0 v1 v2 v3 v4 v5 b9 := ⟨h.bel, h.s0, fun _ => rfl, h.s2, h.s3, h.s4, h.s5, h.s6, h.s7, h.s8, h.s9, h.s11, h.o10⟩
theorem RSt.did2 (h : RSt wr wc l x13 x14 x48 x49 x50 x51 x52 x53 x54 x55 x56 HV A kV pV yV v0 v1 v2 v3 v4 v5 b9) : RSt wr wc (Ls.upd l 2 true) x13 x14 x48 x49 x50 kV x52 x53 x54 x55 x56 HV A kV pV yV v0 v1 v2 v3 v4 v5 b9 := ⟨h.bel, h.s0, h.s1, fun _ => rfl, h.s3, h.s4, h.s5, h.s6, h.s7, h.s8, h.s9, h.s11, h.o10⟩
theorem RSt.did3 (h : RSt wr wc l x13 x14 x48 x49 x50 x51 x52 x53 x54 x55 x56 HV A kV pV yV v0 v1 v2 v3 v4 v5 b9) : RSt wr wc (Ls.upd l 3 true) x13 x14 x48 x49 x50 x51 pV x53 x54 x55 x56 HV A kV pV yV v0 v1 v2 v3 v4 v5 b9 := ⟨h.bel, h.s0, h.s1, h.s2, fun _ => rfl, h.s4, h.s5, h.s6, h.s7, h.s8, h.s9, h.s11, h.o10⟩
theorem RSt.did4 (h : RSt wr wc l x13 x14 x48 x49 x50 x51 x52 x53 x54 x55 x56 HV A kV pV yV v0 v1 v2 v3 v4 v5 b9) : RSt wr wc (Ls.upd l 4 true) x13 x14 x48 x49 x50 x51 x52 yV x54 x55 x56 HV A kV pV yV v0 v1 v2 v3 v4 v5 b9 := ⟨h.bel, h.s0, h.s1, h.s2, h.s3, fun _ => rfl, h.s5, h.s6, h.s7, h.s8, h.s9, h.s11, h.o10⟩
theorem RSt.did6 (h : RSt wr wc l x13 x14 x48 x49 x50 x51 x52 x53 x54 x55 x56 HV A kV pV yV v0 v1 v2 v3 v4 v5 b9) : RSt wr wc (Ls.upd l 6 true) x13 x14 (.tuple #[(.agg #[.bool v0, .bool v1, .bool v2, .int .i64 v3, .int .i64 v4, .int .i64 v5]), .int .i64 0]) x49 x50 x51 x52 x53 x54 x55 x56 HV A kV pV yV v0 v1 v2 v3 v4 v5 b9 := ⟨h.bel, h.s0, h.s1, h.s2, h.s3, h.s4, h.s5, fun _ => rfl, h.s7, h.s8, h.s9, h.s11, h.o10⟩
theorem RSt.did7 (h : RSt wr wc l x13 x14 x48 x49 x50 x51 x52 x53 x54 x55 x56 HV A kV pV yV v0 v1 v2 v3 v4 v5 b9) : RSt wr wc (Ls.upd l 7 true) x13 x14 x48 x49 x50 x51 x52 x53 x54 (.agg #[.bool v0, .bool v1, .bool v2, .int .i64 v3, .int .i64 v4, .int .i64 v5]) x56 HV A kV pV yV v0 v1 v2 v3 v4 v5 b9 := ⟨h.bel, h.s0, h.s1, h.s2, h.s3, h.s4, h.s5, h.s6, fun _ => rfl, h.s8, h.s9, h.s11, h.o10⟩
theorem RSt.did8 (h : RSt wr wc l x13 x14 x48 x49 x50 x51 x52 x53 x54 x55 x56 HV A kV pV yV v0 v1 v2 v3 v4 v5 b9) : RSt wr wc (Ls.upd l 8 true) x13 x14 x48 x49 x50 x51 x52 x53 x54 x55 (.int .i64 0) HV A kV pV yV v0 v1 v2 v3 v4 v5 b9 := ⟨h.bel, h.s0, h.s1, h.s2, h.s3, h.s4, h.s5, h.s6, h.s7, fun _ => rfl, h.s9, h.s11, h.o10⟩
theorem RSt.did11 (h : RSt wr wc l x13 x14 x48 x49 x50 x51 x52 x53 x54 x55 x56 HV A kV pV yV v0 v1 v2 v3 v4 v5 b9) : RSt wr wc (Ls.upd l 11 true) x13 (.int .i64 0) x48 x49 x50 x51 x52 x53 x54 x55 x56 HV A kV pV yV v0 v1 v2 v3 v4 v5 b9 := ⟨h.bel, h.s0, h.s1, h.s2, h.s3, h.s4, h.s5, h.s6, h.s7, h.s8, h.s9, fun _ => rfl, h.o10⟩
theorem RSt.did5 (h : RSt wr wc l x13 x14 x48 x49 x50 x51 x52 x53 x54 x55 x56 HV A kV pV yV v0 v1 v2 v3 v4 v5 b9) (hl : l 10 = false) (hb : Below wc.heap.size wc wc') : RSt wr wc' (Ls.upd l 5 true) x13 x14 x48 x49 x50 x51 x52 x53 (.tuple #[(.agg #[.bool v0, .bool v1, .bool v2, .int .i64 v3, .int .i64 v4, .int .i64 v5]), .int .i64 0]) x55 x56 HV A kV pV yV v0 v1 v2 v3 v4 v5 b9 := ⟨h.bel.trans (hb.mono h.bel.size), h.s0, h.s1, h.s2, h.s3, h.s4, fun _ => rfl, h.s6, h.s7, h.s8, fun h9 => ⟨(h.s9 h9).1, (h.s9 h9).2.1, by
    have h1 := (h.s9 h9).2.2
    rw [if_neg (by rw [hl]; decide)] at h1
    rw [if_neg (by show ¬ l 10 = true; rw [hl]; decide)]
    exact h1.next hb⟩, h.s11, fun h10 => absurd h10 (by show ¬ l 10 = true; rw [hl]; decide)⟩
theorem RSt.did9 (h : RSt wr wc l x13 x14 x48 x49 x50 x51 x52 x53 x54 x55 x56 HV A kV pV yV v0 v1 v2 v3 v4 v5 b9) (hl : l 10 = false) (ty : TypeId) : RSt wr (wc.alloc (.cells #[.bool false, .bool false, .bool false, .int .i64 0, .int .i64 0, .int .i64 0] ty)) (Ls.upd l 9 true) (.pointer (some ⟨wc.heap.size, 0, none⟩)) x14 x48 x49 x50 x51 x52 x53 x54 x55 x56 HV A kV pV yV v0 v1 v2 v3 v4 v5 wc.heap.size := ⟨h.bel.alloc h.bel.size _, h.s0, h.s1, h.s2, h.s3, h.s4, h.s5, h.s6, h.s7, h.s8, fun _ => ⟨rfl, h.bel.size, by
    rw [if_neg (by show ¬ l 10 = true; rw [hl]; decide)]
    exact XBox.new wc ty⟩, h.s11, fun h10 => absurd h10 (by show ¬ l 10 = true; rw [hl]; decide)⟩
theorem RSt.did10 (h : RSt wr wc l x13 x14 x48 x49 x50 x51 x52 x53 x54 x55 x56 HV A kV pV yV v0 v1 v2 v3 v4 v5 b9) (hl : l 10 = false) (h9 : l 9 = true) (h5 : l 5 = true) : RSt wr ((((((wc.setCell ⟨b9, 0, none⟩ (.bool v0)).setCell ⟨b9, 1, none⟩ (.bool v1)).setCell ⟨b9, 2, none⟩ (.bool v2)).setCell ⟨b9, 3, none⟩ (.int .i64 v3)).setCell ⟨b9, 4, none⟩ (.int .i64 v4)).setCell ⟨b9, 5, none⟩ (.int .i64 v5)) (Ls.upd l 10 true) x13 x14 x48 x49 x50 x51 x52 x53 x54 x55 x56 HV A kV pV yV v0 v1 v2 v3 v4 v5 b9 := ⟨below_put6 h.bel (h.s9 h9).2.1 _ _ _ _ _ _, h.s0, h.s1, h.s2, h.s3, h.s4, h.s5, h.s6, h.s7, h.s8, fun _ => ⟨(h.s9 h9).1, (h.s9 h9).2.1, by
    have h1 := (h.s9 h9).2.2
    rw [if_neg (by rw [hl]; decide)] at h1
    rw [if_pos (show Ls.upd l 10 true 10 = true from rfl)]
    exact x6_put h1 v0 v1 v2 v3 v4 v5⟩, h.s11, fun _ => ⟨h9, h5⟩⟩
end
end Go.Proofs.YtmalopciboikhaaDoor
end
section
namespace Go.Proofs.YtmalopciboikhaaDoor.Ck
open Go.Proofs.YtmalopciboikhaaDoor
open Go.RowKit
set_option maxRecDepth 100000

/-- What is on the first cards. -/
def upN (us : List Int) (q : Nat) : List Int := us.filter fun a => decide (a < 16 + (q : Int) * 8)
theorem upN_mem {us : List Int} {q : Nat} {a : Int} : a ∈ upN us q ↔ a ∈ us ∧ a < 16 + (q : Int) * 8 := by
  unfold upN
  rw [List.mem_filter, decide_eq_true_eq]
theorem upN_zero {us : List Int} (h : ∀ a ∈ us, 16 ≤ a) : upN us 0 = [] := by
  refine List.eq_nil_iff_forall_not_mem.2 fun a ha => ?_
  obtain ⟨h1, h2⟩ := upN_mem.1 ha
  have := h a h1
  omega
theorem upN_next {us : List Int} (hr : us.Pairwise (· < ·)) (q : Nat) : upN us (q + 1) = upN us q ++ us.filter fun a => decide ((a - 16) / 8 = (q : Int)) := by
  refine rise_ext (hr.sublist List.filter_sublist) ?_ fun a => ?_
  · refine List.pairwise_append.2 ⟨hr.sublist List.filter_sublist, hr.sublist List.filter_sublist, fun a ha b hb => ?_⟩
    have h1 := (upN_mem.1 ha).2
    have h2 := List.mem_filter.1 hb
    have h3 := of_decide_eq_true h2.2
    omega
  · rw [List.mem_append, upN_mem, upN_mem, List.mem_filter, decide_eq_true_eq]
    constructor
    · rintro ⟨h1, h2⟩
      by_cases e : a < 16 + (q : Int) * 8
      · exact .inl ⟨h1, e⟩
      · exact .inr ⟨h1, by omega⟩
    · rintro (⟨h1, h2⟩ | ⟨h1, h2⟩)
      · exact ⟨h1, by omega⟩
      · exact ⟨h1, by omega⟩
theorem upN_all {us : List Int} {q : Nat} (h : ∀ a ∈ us, a < 16 + (q : Int) * 8) : upN us q = us := by
  unfold upN
  rw [List.filter_eq_self]
  exact fun a ha => decide_eq_true (h a ha)
theorem rise_at {ys : List Int} (h : ys.Pairwise (· < ·)) {i j : Nat} (hij : i < j) (hj : j < ys.length) : ys.getD i 0 < ys.getD j 0 := by
  have := List.pairwise_iff_getElem.1 h i j (by omega) hj hij
  simpa [List.getD, hj, show i < ys.length by omega] using this
/-- Where so many are behind, the next one is told. -/
theorem next_at {s : Hs} {d : Hd_} {k a : Int} {j : Nat} (ys : List Int) (hy : ys = (onL s d k).filter (oldB s d)) (h1 : ∀ i, i < j → i < ys.length → ys.getD i 0 ≤ a) (h2 : j < ys.length → a < ys.getD j 0) (hj : j ≤ ys.length) : nextA s d k a = ys.getD j 0 ∧ nextB s d k a = decide (j < ys.length) := by
  have e : nextO s d k a = ys.find? fun x => decide (a < x) := by
    unfold nextO
    rw [hy, List.find?_filter]
    congr 1
    funext x
    rw [Bool.and_comm]
    simp
  unfold nextA nextB
  rw [e]
  have hlow : ∀ x ∈ ys.take j, decide (a < x) = false := fun x hx => by
    obtain ⟨i, hi, rfl⟩ := List.mem_iff_getElem.1 hx
    rw [List.length_take] at hi
    have := h1 i (by omega) (by omega)
    rw [List.getD, List.getElem?_eq_getElem (by omega)] at this
    rw [List.getElem_take]
    exact decide_eq_false (by simp only [Option.getD_some] at this; omega)
  by_cases hlt : j < ys.length
  · rw [find_at hlt hlow (decide_eq_true (h2 hlt)), decide_eq_true hlt]
    exact ⟨rfl, rfl⟩
  · have : j = ys.length := by omega
    rw [find_no (by rwa [List.take_of_length_le (by omega)] at hlow), decide_eq_false hlt, List.getD, List.getElem?_eq_none (by omega)]
    exact ⟨rfl, rfl⟩
theorem take_next {p : Int → Bool} {xs : List Int} {q : Nat} (h : q < xs.length) : (xs.take (q + 1)).filter p = (xs.take q).filter p ++ if p (xs.getD q 0) then [xs.getD q 0] else [] := by
  have g : xs.getD q 0 = xs[q] := by simp [List.getD, h]
  rw [List.take_succ_eq_append_getElem h, List.filter_append, g]
  cases hp : p xs[q] <;> simp [hp]
theorem take_one {ys : List Int} {j : Nat} (h : j < ys.length) : ys.take (j + 1) = ys.take j ++ [ys.getD j 0] := by
  have g : ys.getD j 0 = ys[j] := by simp [List.getD, h]
  rw [List.take_succ_eq_append_getElem h, g]
theorem own_next {W W' : World} {base n : Nat} {v : Value} {xs : List Value} (h : W.ownsRow base 3 1 v n xs) (hb : Below W.heap.size W W') : W'.ownsRow base 3 1 v n xs :=
  Ls.World.ownsRow.same h fun g hg _ => hb.block g (h.lt g hg).2
theorem all_next {w W W' : World} {t : Ls.Sl} {xs : List Int} (h : Ls.Alling w W t xs) (hb : Below W.heap.size W W') : Ls.Alling w W' t xs := ⟨own_next h.own hb, h.bel.trans (hb.mono h.bel.size)⟩
theorem row_next' {W W' : World} {n : Nat} {a : Option Addr} {xs : List Int} (h : Row W W.heap.size a n xs) (hb : Below W.heap.size W W') : Row W' W'.heap.size a n xs := (h.below hb).more hb.size
def KCPut (a : Act) (x13 x14 x48 x49 x50 x51 x52 x53 x54 x55 x56 : Value) : Act := (((((((((((a.put (some 16) x13).put (some 17) x14).put (some 80) x48).put (some 81) x49).put (some 82) x50).put (some 83) x51).put (some 84) x52).put (some 85) x53).put (some 86) x54).put (some 87) x55).put (some 88) x56)
def KCInv (wr : World) (HV A kV pV yV : Value) (v0 v1 v2 : Bool) (v3 v4 v5 : Int) (a0 : Act) (l : Nat → Bool) (a : Act) (wc : World) : Prop :=
  ∃ x13 x14 x48 x49 x50 x51 x52 x53 x54 x55 x56 b9, a = KCPut a0 x13 x14 x48 x49 x50 x51 x52 x53 x54 x55 x56 ∧ RSt wr wc l x13 x14 x48 x49 x50 x51 x52 x53 x54 x55 x56 HV A kV pV yV v0 v1 v2 v3 v4 v5 b9
end Go.Proofs.YtmalopciboikhaaDoor.Ck
end
