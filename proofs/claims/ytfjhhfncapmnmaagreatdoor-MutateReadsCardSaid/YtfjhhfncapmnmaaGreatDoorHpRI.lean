/-
  Merged texts: HpInv, MuPlan, ShAct, MuKind, MuBoxes.
-/
import Derived.Test.YtfjhhfncapmnmaaGreatDoorHpRG
import Derived.Test.YtfjhhfncapmnmaaGreatDoorHpRH
import Derived.Test.YtfjhhfncapmnmaaGreatDoorRMuTaken
import Derived.Test.YtfjhhfncapmnmaaGreatDoorRRtFresh
section
namespace Go.Proofs.YtfjhhfncapmnmaaGreatDoor
open Go.RowKit

section
variable {P : Program} {ops : Array Oper} {Q : Exit → Act → World → Prop} {md : Region.Mode}
theorem wpAny_inv (Inv : (Nat → Bool) → Act → World → Prop) (hdag : ∀ (i : Nat) (o : Oper), ops[i]? = some o → ∀ e ∈ o.after, Region.binds md e = true → e.on < i)
    (hstep : ∀ (i : Nat) (o : Oper) (l : Nat → Bool) (a : Act) (w : World), ops[i]? = some o → Inv l a w → l i = false → (∀ e ∈ o.after, Region.binds md e = true → l e.on = true) → ∀ K : Act → World → Prop, (∀ a' w', Inv (Ls.upd l i true) a' w' → K a' w') → wpOp P ops Q i K a w)
    (hdone : ∀ (l : Nat → Bool) (a : Act) (w : World), Inv l a w → (∀ i, i < ops.size → l i = true) → Q .normal a w) :
    ∀ (fuel : Nat) (listed : Array Bool) (l : Nat → Bool) (a : Act) (w : World), listed.size = ops.size → (∀ j, j < ops.size → listed.getD j true = l j) → Ls.todo ops.size l ≤ fuel → Inv l a w → wpAny P md ops Q fuel listed a w := by
  intro fuel
  induction fuel with
  | zero =>
    intro listed l a w hs hl ht hi
    have hall := Ls.todo_none ops.size (Nat.le_zero.1 ht)
    refine ⟨List.eq_nil_iff_forall_not_mem.2 fun j hj => ?_, hdone l a w hi hall⟩
    obtain ⟨h1, o, ho, _⟩ := mem_ready.1 hj
    have hlt : j < ops.size := (Array.getElem?_eq_some_iff.1 ho).1
    rw [hl j hlt, hall j hlt] at h1
    cases h1
  | succ fuel ih =>
    intro listed l a w hs hl ht hi
    refine ⟨fun hr => hdone l a w hi ?_, fun i hri => ?_⟩
    · intro i
      induction i using Nat.strongRecOn with
      | ind i ihi =>
        intro hlt
        cases hli : l i with
        | true => rfl
        | false =>
          have ho : ops[i]? = some ops[i] := Array.getElem?_eq_getElem hlt
          have : i ∈ Region.ready md ops listed := mem_ready.2 ⟨by rw [hl i hlt]; exact hli, _, ho, fun e he hbd => by
            have hlo := hdag i _ ho e he hbd
            have h1 := ihi e.on hlo (by omega)
            rw [← hl e.on (by omega)] at h1
            rw [Array.getD_eq_getD_getElem?] at h1 ⊢
            rw [Array.getElem?_eq_getElem (by omega)] at h1 ⊢
            exact h1⟩
          rw [hr] at this
          cases this
    · obtain ⟨h1, o, ho, ha⟩ := mem_ready.1 hri
      have hlt : i < ops.size := (Array.getElem?_eq_some_iff.1 ho).1
      rw [hl i hlt] at h1
      refine hstep i o l a w ho hi h1 (fun e he hb => ?_) _ (fun a' w' hi' => ih _ (Ls.upd l i true) a' w' (by simpa using hs) (fun j hj => ?_) ?_ hi')
      · have h2 := ha e he hb
        have hlo := hdag i o ho e he hb
        rw [← hl e.on (by omega)]
        rw [Array.getD_eq_getD_getElem?] at h2 ⊢
        rw [Array.getElem?_eq_getElem (by omega)] at h2 ⊢
        exact h2
      · by_cases e : j = i
        · subst e
          rw [Ls.upd_same, Array.getD_eq_getD_getElem?, Array.getElem?_setIfInBounds_self_of_lt (by omega)]
          rfl
        · rw [Ls.upd_other _ _ e, Array.getD_eq_getD_getElem?, Array.getElem?_setIfInBounds_ne (fun h => e h.symm), ← Array.getD_eq_getD_getElem?]
          exact hl j hj
      · have := Ls.todo_upd h1 ops.size hlt
        omega
theorem wp_region_from {id : Nat} {a : Act} {w : World} (hm : P.follows .mixedOrders = true) (Inv : Act → (Nat → Bool) → Act → World → Prop) (hdag : ∀ (i : Nat) (o : Oper), ops[i]? = some o → ∀ e ∈ o.after, Region.binds .any e = true → e.on < i)
    (hstart : Inv a (fun _ => false) a w.drew)
    (hstep : ∀ (i : Nat) (o : Oper) (l : Nat → Bool) (a' : Act) (w : World), ops[i]? = some o → Inv a l a' w → l i = false → (∀ e ∈ o.after, Region.binds .any e = true → l e.on = true) → ∀ K : Act → World → Prop, (∀ a'' w', Inv a (Ls.upd l i true) a'' w' → K a'' w') → wpOp P ops Q i K a' w)
    (hdone : ∀ (l : Nat → Bool) (a' : Act) (w : World), Inv a l a' w → (∀ i, i < ops.size → l i = true) → Q .normal a' w) : (Code.region id ops true).wp P Q a w :=
  wp_region_any hm (wpAny_inv (Inv a) hdag hstep hdone ops.size _ (fun _ => false) a w.drew (by simp) (fun j hj => by
    rw [Array.getD_eq_getD_getElem?, Array.getElem?_replicate, if_pos hj]
    rfl) (Ls.todo_le _ _) hstart)
/-- The edges that bind lead back. -/
def backAny (ops : Array Oper) : Bool := (List.range ops.size).all fun i => ((ops[i]?).map fun o => o.after.all fun e => !Region.binds .any e || decide (e.on < i)).getD true
theorem dag_any {ops : Array Oper} (h : backAny ops = true) : ∀ (i : Nat) (o : Oper), ops[i]? = some o → ∀ e ∈ o.after, Region.binds .any e = true → e.on < i := by
  intro i o ho e he hb
  have hi : i < ops.size := (Array.getElem?_eq_some_iff.1 ho).1
  have := List.all_eq_true.1 h i (List.mem_range.2 hi)
  rw [ho] at this
  simp only [Option.map_some, Option.getD_some] at this
  have := Array.all_eq_true_iff_forall_mem.1 this e he
  rw [hb] at this
  simpa using this
theorem wpOp_of {i : Nat} {o : Oper} {a : Act} {w : World} {K : Act → World → Prop} (ho : ops[i]? = some o)
    (h : if Region.wanted o (yielded ops a.tmps) = true then o.wp P a w K Q else K (a.put o.dst undef) w) : wpOp P ops Q i K a w := by
  unfold wpOp
  rw [ho]
  simp only
  split
  · next hw => rw [if_pos hw] at h; exact .inl h
  · next hw => rw [if_neg hw] at h; exact h
end
end Go.Proofs.YtfjhhfncapmnmaaGreatDoor
end
section
namespace Go.Proofs.YtfjhhfncapmnmaaGreatDoor.Mu
open Go.Proofs.YtfjhhfncapmnmaaGreatDoor
open Go.RowKit
set_option maxRecDepth 100000

/-- What slots hold: those of what has been carried out. -/
structure Pl (ops : Array Oper) (a0 : Act) (val : Nat → Value) (l : Nat → Bool) (a : Act) : Prop where
  sz : a.tmps.size = a0.tmps.size
  df : a.defers = a0.defers
  out : ∀ j : Nat, (∀ (i : Nat) (o : Oper), ops[i]? = some o → ¬ o.dst = some j) → a.tmps[j]? = a0.tmps[j]?
  got : ∀ (i : Nat) (o : Oper) (s : Nat), ops[i]? = some o → l i = true → o.dst = some s → a.tmps[s]? = some (val i)
/-- Slots within the frame, no two alike; no operation is guarded. -/
def fitB (ops : Array Oper) (n : Nat) : Bool := (List.range ops.size).all fun i => ((ops[i]?).map fun o => o.guard.isNone && (match o.dst with
  | none => true
  | some s => decide (s < n) && (List.range i).all fun j => ((ops[j]?).map fun q => !(q.dst == some s)).getD true)).getD true
theorem fit_one {ops : Array Oper} {n i : Nat} {o : Oper} (h : fitB ops n = true) (ho : ops[i]? = some o) : o.guard = none ∧ ∀ s, o.dst = some s → s < n ∧ ∀ j q, j < i → ops[j]? = some q → ¬ q.dst = some s := by
  have hi : i < ops.size := (Array.getElem?_eq_some_iff.1 ho).1
  have h1 := List.all_eq_true.1 h i (List.mem_range.2 hi)
  rw [ho] at h1
  simp only [Option.map_some, Option.getD_some, Bool.and_eq_true] at h1
  refine ⟨by simpa using h1.1, fun s hs => ?_⟩
  have h2 := h1.2
  rw [hs] at h2
  simp only [Bool.and_eq_true, decide_eq_true_eq] at h2
  refine ⟨h2.1, fun j q hj hq hd => ?_⟩
  have h3 := List.all_eq_true.1 h2.2 j (List.mem_range.2 hj)
  rw [hq] at h3
  simp [hd] at h3
theorem Pl.put {ops : Array Oper} {a0 a : Act} {val val' : Nat → Value} {l : Nat → Bool} {i : Nat} {o : Oper} (hf : fitB ops a0.tmps.size = true) (h : Pl ops a0 val l a) (ho : ops[i]? = some o) (hv : ∀ j, l j = true → val' j = val j) (hl : l i = false) : Pl ops a0 val' (Ls.upd l i true) (a.put o.dst (val' i)) := by
  cases hd : o.dst with
  | none =>
    refine ⟨h.sz, h.df, h.out, fun j q s hq hj hs => ?_⟩
    by_cases e : j = i
    · subst e
      rw [ho] at hq
      cases hq
      rw [hd] at hs
      cases hs
    · rw [Ls.upd_other _ _ e] at hj
      rw [hv j hj]
      exact h.got j q s hq hj hs
  | some s =>
    have h1 := ((fit_one hf ho).2 s hd)
    refine ⟨by simp [Act.put, h.sz], h.df, fun j hj => ?_, fun j q s' hq hj hs => ?_⟩
    · have hne : ¬ s = j := fun e => hj i o ho (by rw [hd, e])
      rw [← h.out j hj]
      simp [Act.put, Array.getElem?_setIfInBounds_ne hne]
    · by_cases e : j = i
      · subst e
        rw [ho] at hq
        cases hq
        rw [hd] at hs
        cases hs
        have : s < a.tmps.size := by rw [h.sz]; exact h1.1
        simp [Act.put, this]
      · rw [Ls.upd_other _ _ e] at hj
        have hne : ¬ s = s' := fun e' => by
          subst e'
          rcases Nat.lt_or_gt_of_ne e with hlt | hlt
          · exact h1.2 j q hlt hq hs
          · exact ((fit_one hf hq).2 s hs).2 i o hlt ho hd
        rw [hv j hj, ← h.got j q s' hq hj hs]
        simp [Act.put, Array.getElem?_setIfInBounds_ne hne]
def noDst (ops : Array Oper) (j : Nat) : Bool := (List.range ops.size).all fun i => ((ops[i]?).map fun o => !(o.dst == some j)).getD true
theorem Pl.keep {ops : Array Oper} {a0 a : Act} {val : Nat → Value} {l : Nat → Bool} (h : Pl ops a0 val l a) {j : Nat} (hj : noDst ops j = true) : a.tmps[j]? = a0.tmps[j]? := h.out j fun i o ho hd => by
  have hi : i < ops.size := (Array.getElem?_eq_some_iff.1 ho).1
  have h1 := List.all_eq_true.1 hj i (List.mem_range.2 hi)
  rw [ho] at h1
  simp [hd] at h1
section
variable {P : Program} {ops : Array Oper} {Q : Exit → Act → World → Prop}
theorem region_plan {X : Type} {id : Nat} {a : Act} {w : World} (hm : P.follows .mixedOrders = true) (hb : backAny ops = true) (hf : fitB ops a.tmps.size = true) (val : X → Nat → Value) (I : X → (Nat → Bool) → World → Prop) (x0 : X) (hstart : I x0 (fun _ => false) w.drew)
    (hstep : ∀ (i : Nat) (o : Oper) (l : Nat → Bool) (a' : Act) (x : X) (W : World), ops[i]? = some o → Pl ops a (val x) l a' → I x l W → l i = false → (∀ e ∈ o.after, Region.binds .any e = true → l e.on = true) → ∀ K : Act → World → Prop,
      (∀ (x' : X) (W' : World), (∀ j, l j = true → val x' j = val x j) → I x' (Ls.upd l i true) W' → K (a'.put o.dst (val x' i)) W') → o.wp P a' W K Q)
    (hdone : ∀ (l : Nat → Bool) (a' : Act) (x : X) (W : World), Pl ops a (val x) l a' → I x l W → (∀ i, i < ops.size → l i = true) → Q .normal a' W) : (Code.region id ops true).wp P Q a w := by
  refine wp_region_from hm (fun a0 l a' W => a0 = a ∧ ∃ x, Pl ops a (val x) l a' ∧ I x l W) (dag_any hb) ⟨rfl, x0, ⟨rfl, rfl, fun _ _ => rfl, fun _ _ _ _ h => by cases h⟩, hstart⟩ ?_ ?_
  · rintro i o l a' W ho ⟨_, x, hP, hI⟩ hl haft K hK
    refine wpOp_of ho ?_
    have hg : Region.wanted o (yielded ops a'.tmps) = true := by
      unfold Region.wanted
      rw [(fit_one hf ho).1]
    rw [if_pos hg]
    exact hstep i o l a' x W ho hP hI hl haft K fun x' W' hv hI' => hK _ _ ⟨rfl, x', hP.put hf ho hv hl, hI'⟩
  · rintro l a' W ⟨_, x, hP, hI⟩ hall
    exact hdone l a' x W hP hI hall
/-- One operation. -/
theorem ev {a : Act} {s : Nat} {v : Value} (h : a.tmps[s]? = some v) : a.eval (.tmp s) = v := by
  show a.tmps.getD s undef = v
  rw [Array.getD_eq_getD_getElem?, h]
  rfl
variable {o : Oper} {a : Act} {W : World} {K : Act → World → Prop}
theorem p_load {x : Operand} {ty : TypeId} {p v : Value} (ho : o.op = .load ty x) (hx : a.eval x = p) (hr : (Instr.loadAt ty p).run P W = .ok v W) (hK : K (a.put o.dst v) W) : o.wp P a W K Q := by
  unfold Oper.wp execOp
  simp only [ho, hx, Sem.run_bind, hr, Result.andThen_ok]
  exact hK
theorem p_store {x y : Operand} {ty : TypeId} {p v : Value} {W' : World} (ho : o.op = .store ty x y) (hx : a.eval x = p) (hy : a.eval y = v) (hr : (Instr.storeAt ty p v).run P W = .ok () W') (hK : K (a.put o.dst undef) W') : o.wp P a W K Q := by
  unfold Oper.wp execOp
  simp only [ho, hx, hy, Sem.run_bind, hr, Result.andThen_ok]
  exact hK
end
end Go.Proofs.YtfjhhfncapmnmaaGreatDoor.Mu
end
section
namespace Go.Proofs.YtfjhhfncapmnmaaGreatDoor.Sh
open Go.Proofs.YtfjhhfncapmnmaaGreatDoor
open Go.RowKit
set_option maxRecDepth 100000

structure Rg (a0 a : Act) (lo hi : Nat) : Prop where
  sz : a.tmps.size = a0.tmps.size
  df : a.defers = a0.defers
  out : ∀ j, (j < lo ∨ hi ≤ j) → a.tmps[j]? = a0.tmps[j]?
theorem Rg.refl (a0 : Act) (lo hi : Nat) : Rg a0 a0 lo hi := ⟨rfl, rfl, fun _ _ => rfl⟩
theorem put_ne {a : Act} {i j : Nat} {v : Value} (h : ¬ i = j) : (a.put (some i) v).tmps[j]? = a.tmps[j]? := by
  simp [Act.put, Array.getElem?_setIfInBounds_ne h]
theorem Rg.put {a0 a : Act} {lo hi i : Nat} (h : Rg a0 a lo hi) (v : Value) (h1 : lo ≤ i) (h2 : i < hi) : Rg a0 (a.put (some i) v) lo hi :=
  ⟨by simp [Act.put, h.sz], h.df, fun j hj => (put_ne (by omega)).trans (h.out j hj)⟩
theorem region_gen {P : Program} {c : Code} {Q : Exit → Act → World → Prop} {a : Act} {w : World} (h : ∀ a0, a0 = a → c.wp P Q a0 w) : c.wp P Q a w := h a rfl
theorem act_ext {a b : Act} (h1 : a.defers = b.defers) (h2 : ∀ j : Nat, a.tmps[j]? = b.tmps[j]?) : a = b := by
  obtain ⟨x, y⟩ := a
  obtain ⟨z, u⟩ := b
  dsimp only at h1 h2
  rw [Array.ext_getElem? h2, h1]
end Go.Proofs.YtfjhhfncapmnmaaGreatDoor.Sh
end
section
namespace Go.Proofs.YtfjhhfncapmnmaaGreatDoor.Mu
open Go.Proofs.YtfjhhfncapmnmaaGreatDoor Go.Proofs.YtfjhhfncapmnmaaGreatDoor.Rt
open Go.RowKit
set_option maxRecDepth 100000

theorem res_cell {W : World} {b : Nat} {vs : List Value} {fn : Func} {p : Tmp} {ty : TypeId} {d : TypeDesc} {tm : Array Value} (hf : fn.results = #[.cell p ty]) (ht : tm[p]? = some (.pointer (some ⟨b, 0, none⟩))) (h : Box W b vs) (hu : Tryz.prog.underlying ty = some d) (hd : d.isRow = true) (hi : (Tryz.prog.info? ty).map (·.size) = some vs.length) : (results fn tm).run Tryz.prog W = .ok (.agg vs.toArray) W := by
  have hl := run_loadVar_mid (P := Tryz.prog) W b 0 ty vs d (fun j v hj => by rw [Nat.zero_add]; exact h.cel j v hj) hu hd hi
  simp [results, hf, ht, asAddr, hl]
theorem bykind_any (w : World) : Calls Tryz.prog 76 #[] w fun e w' => e = .returned (.agg #[.func (Fn.func 116) #[] #[], .func (Fn.func 117) #[] #[], .func (Fn.func 118) #[] #[], .func (Fn.func 119) #[] #[], .func (Fn.func 120) #[] #[], .func (Fn.func 121) #[] #[], .func (Fn.func 122) #[] #[]]) ∧ Below w.heap.size w w' := by
  go_enter Tryz.func76, Tryz.ntmps76
  go_upto_region 1 with fail
  obtain ⟨W1, hW1⟩ : ∃ W1, W1 = w.alloc (.cells #[.nilFunc, .nilFunc, .nilFunc, .nilFunc, .nilFunc, .nilFunc, .nilFunc] 114) := ⟨_, rfl⟩
  have X1 : Hid (Below w.heap.size w W1 ∧ Box W1 w.heap.size [.nilFunc, .nilFunc, .nilFunc, .nilFunc, .nilFunc, .nilFunc, .nilFunc]) := Lib.hid (by rw [hW1]; exact ⟨(Below.refl _ _).alloc (Nat.le_refl _) _, Box.new w [.nilFunc, .nilFunc, .nilFunc, .nilFunc, .nilFunc, .nilFunc, .nilFunc] _⟩)
  rw [← hW1]
  clear hW1
  have hi : (Tryz.prog.info? 114).map (·.size) = some 7 := by kernel_rfl
  go_wp2_with (refine w_store (st X1.out.2 (o := 0) (cs := [.func (Fn.func 116) #[] #[], .func (Fn.func 117) #[] #[], .func (Fn.func 118) #[] #[], .func (Fn.func 119) #[] #[], .func (Fn.func 120) #[] #[], .func (Fn.func 121) #[] #[], .func (Fn.func 122) #[] #[]]) (show 0 + 7 ≤ 7 by decide) 114 hi (by kernel_rfl)) rfl rfl rfl rfl rfl ?_)
  have X2 := Box.puts [.func (Fn.func 116) #[] #[], .func (Fn.func 117) #[] #[], .func (Fn.func 118) #[] #[], .func (Fn.func 119) #[] #[], .func (Fn.func 120) #[] #[], .func (Fn.func 121) #[] #[], .func (Fn.func 122) #[] #[]] 0 X1.out.2
  exact bodyPost_ret (v := (.agg #[.func (Fn.func 116) #[] #[], .func (Fn.func 117) #[] #[], .func (Fn.func 118) #[] #[], .func (Fn.func 119) #[] #[], .func (Fn.func 120) #[] #[], .func (Fn.func 121) #[] #[], .func (Fn.func 122) #[] #[]])) (res_cell rfl rfl X2 Tryz.underlying114 rfl hi) rfl ⟨rfl, below_puts _ (Nat.le_refl _) _ _ _ X1.out.1⟩
set_option maxHeartbeats 2000000 in
theorem step_kind (P P' : St) (w : World) (h : Pre w P) (kk : Int) (f : Nat) (hk : P.n.p.k = kk) (hk1 : decide (kk < 0) = false) (hk2 : decide (7 ≤ kk) = false) (hx : ∀ W, (Instr.index 114 (Value.agg #[.func (Fn.func 116) #[] #[], .func (Fn.func 117) #[] #[], .func (Fn.func 118) #[] #[], .func (Fn.func 119) #[] #[], .func (Fn.func 120) #[] #[], .func (Fn.func 121) #[] #[], .func (Fn.func 122) #[] #[]]) (.int .i64 kk)).run Tryz.prog W = .ok (.func (Fn.func f) #[] #[]) W) (hcf : ∀ args W, (callFunc f args).run Tryz.prog W = .ok (.enter f args) W) (hm : ∀ W, Mw w W P.n noN P.d P.xs P.F P.g → Calls Tryz.prog f #[.agg (nv P.n).toArray] W (SOut W P.n P')) : Calls Tryz.prog 39 #[.agg (nv P.n).toArray] w (SOut w P.n P') := by
  have HP := Lib.hid h
  have HM := Lib.hid hm
  have HK := Lib.hid hk
  have HX := Lib.hid hx
  clear h hm hk hx
  go_enter Tryz.func39, Tryz.ntmps39
  go_upto_region 1 with fail
  obtain ⟨W1, hW1⟩ : ∃ W1, W1 = (w.alloc (.cells (nv P.n).toArray 75)).alloc (.cells #[.slice none 0 0, .slice none 0 0, .slice none 0 0, .slice none 0 0, .slice none 0 0, .slice none 0 0, .int .i64 0, .int .i64 0, .bool false, .slice none 0 0, .bool false, .int .i64 0, .int .i64 0, .int .i64 0, .int .i64 0, .bool false, .bool false, .int .i64 0, .int .i64 0, .int .i64 0, .int .i64 0, .slice none 0 0, .slice none 0 0, .slice none 0 0, .int .i64 0, .int .i64 0, .int .i64 0, .slice none 0 0, .int .i64 0, .int .i64 0, .int .i64 0, .int .i64 0, .int .i64 0, .int .i64 0, .int .i64 0, .int .i64 0, .int .i64 0, .int .i64 0, .int .i64 0, .int .i64 0, .int .i64 0, .int .i64 0, .bool false] 75) := ⟨_, rfl⟩
  have B1 := Lib.hid (mw_start P HP.out.hold hW1)
  rw [← hW1]
  clear hW1
  have k1 := B1.out.nb.box.cel 31 (.int .i64 P.n.p.k) rfl
  rw [HK.out] at k1
  go_upto_region 3 with fail
  refine Sh.region_gen fun a0 ha0 => ?_
  have G1 : a0.tmps[1]? = some (.pointer (some ⟨w.heap.size, 0, none⟩)) := by rw [ha0]; rfl
  have G2 : a0.tmps[2]? = some (.pointer (some ⟨w.heap.size + 1, 0, none⟩)) := by rw [ha0]; rfl
  have TD : a0.defers = [] := congrArg Act.defers ha0
  have TZ : a0.tmps.size = 22 := by rw [ha0]; rfl
  clear ha0
  refine region_plan (by kernel_rfl) (by kernel_rfl) (by rw [TZ]; kernel_rfl) (fun (x : Tn) (i : Nat) => (match i with | 0 => (Value.agg #[.func (Fn.func 116) #[] #[], .func (Fn.func 117) #[] #[], .func (Fn.func 118) #[] #[], .func (Fn.func 119) #[] #[], .func (Fn.func 120) #[] #[], .func (Fn.func 121) #[] #[], .func (Fn.func 122) #[] #[]]) | 1 => Value.pointer (some ⟨w.heap.size, 31, none⟩) | 2 => Value.pointer (some ⟨w.heap.size, 31, none⟩) | 3 => Value.int .i64 kk | 4 => Value.func (Fn.func f) #[] #[] | 5 => Value.agg (nv P.n).toArray | 6 => Value.agg (nv x).toArray | _ => undef : Value)) (fun x l W => ((l 4 = true → l 0 = true) ∧ (l 6 = true → l 4 = true)) ∧ Box W w.heap.size (nv P.n) ∧ (l 6 = false → Mw w W P.n noN P.d P.xs P.F P.g) ∧ (l 6 = true → l 7 = false → (Eqv x P'.n ∧ Inh w P.n x ∧ AwN w.heap.size x) ∧ Nb w W P.n noN ∧ Hold W ⟨x, P'.d, P'.xs, P'.F, P'.g⟩) ∧ (l 7 = true → l 6 = true ∧ (Eqv x P'.n ∧ Inh w P.n x ∧ AwN w.heap.size x) ∧ Nb w W P.n x ∧ Hold W ⟨x, P'.d, P'.xs, P'.F, P'.g⟩)) noN ?start ?step ?done
  case start =>
    have K9 := B1.out.next (W' := World.drew _) ⟨rfl, rfl, rfl, Nat.le_refl _, fun _ _ => rfl⟩
    exact ⟨⟨(fun h => by cases h), (fun h => by cases h)⟩, K9.nb.box, fun _ => K9, (fun h => by cases h), (fun h => by cases h)⟩
  case step =>
    rintro i o9 l a9 x W9 ho hP hI hl haft K hK
    have hi : i < 8 := (Array.getElem?_eq_some_iff.1 ho).1
    have same : ∀ j, ¬ j = 0 → ¬ j = 4 → ¬ j = 6 → ¬ j = 7 → (fun x l W => ((l 4 = true → l 0 = true) ∧ (l 6 = true → l 4 = true)) ∧ Box W w.heap.size (nv P.n) ∧ (l 6 = false → Mw w W P.n noN P.d P.xs P.F P.g) ∧ (l 6 = true → l 7 = false → (Eqv x P'.n ∧ Inh w P.n x ∧ AwN w.heap.size x) ∧ Nb w W P.n noN ∧ Hold W ⟨x, P'.d, P'.xs, P'.F, P'.g⟩) ∧ (l 7 = true → l 6 = true ∧ (Eqv x P'.n ∧ Inh w P.n x ∧ AwN w.heap.size x) ∧ Nb w W P.n x ∧ Hold W ⟨x, P'.d, P'.xs, P'.F, P'.g⟩)) x (Ls.upd l j true) W9 := fun j h0 h4 h6 h7 => by
      show ((Ls.upd l j true 4 = true → Ls.upd l j true 0 = true) ∧ (Ls.upd l j true 6 = true → Ls.upd l j true 4 = true)) ∧ _ ∧ (Ls.upd l j true 6 = false → _) ∧ (Ls.upd l j true 6 = true → Ls.upd l j true 7 = false → _) ∧ (Ls.upd l j true 7 = true → Ls.upd l j true 6 = true ∧ _)
      rw [Ls.upd_other _ _ (fun e => h0 e.symm), Ls.upd_other _ _ (fun e => h4 e.symm), Ls.upd_other _ _ (fun e => h6 e.symm), Ls.upd_other _ _ (fun e => h7 e.symm)]
      exact hI
    rcases (show i = 0 ∨ i = 1 ∨ i = 2 ∨ i = 3 ∨ i = 4 ∨ i = 5 ∨ i = 6 ∨ i = 7 by omega) with rfl | rfl | rfl | rfl | rfl | rfl | rfl | rfl
    · obtain rfl := Option.some.inj ho
      have h6 : l 6 = false := by
        cases e : l 6 with
        | false => rfl
        | true =>
          have := hI.1.1 (hI.1.2 e)
          rw [hl] at this
          cases this
      go_simp
      refine (bykind_any W9).mono ?_
      rintro e9 w9 ⟨rfl, hb9⟩
      have K9 := (hI.2.2.1 h6).next hb9
      exact hK x _ (fun _ _ => rfl) ⟨⟨fun _ => Ls.upd_same _ _ _, (fun h => by rw [Ls.upd_other _ _ (by decide)] at h; rw [h6] at h; cases h)⟩, K9.nb.box, fun _ => K9, (fun h => by rw [Ls.upd_other _ _ (by decide)] at h; rw [h6] at h; cases h), (fun h => by rw [Ls.upd_other _ _ (by decide)] at h; have := (hI.2.2.2.2 h).1; rw [h6] at this; cases this)⟩
    · obtain rfl := Option.some.inj ho
      have q1 := (hP.keep (j := 1) (by kernel_rfl)).trans G1
      go_simp
      exact hK x _ (fun _ _ => rfl) (same 1 (by decide) (by decide) (by decide) (by decide))
    · obtain rfl := Option.some.inj ho
      have e1 := hP.got 1 _ 16 rfl (haft ⟨1, .data⟩ (by simp) rfl) rfl
      try dsimp only at e1
      go_simp
      exact hK x _ (fun _ _ => rfl) (same 2 (by decide) (by decide) (by decide) (by decide))
    · obtain rfl := Option.some.inj ho
      have e2 := hP.got 2 _ 17 rfl (haft ⟨2, .data⟩ (by simp) rfl) rfl
      try dsimp only at e2
      have hc := ld_int hI.2.1 (j := 31) (x := kk) (by rw [← HK.out]; rfl)
      refine p_load rfl (ev e2) hc ?_
      exact hK x _ (fun _ _ => rfl) (same 3 (by decide) (by decide) (by decide) (by decide))
    · obtain rfl := Option.some.inj ho
      have e0 := hP.got 0 _ 15 rfl (haft ⟨0, .data⟩ (by simp) rfl) rfl
      have e3 := hP.got 3 _ 18 rfl (haft ⟨3, .data⟩ (by simp) rfl) rfl
      try dsimp only at e0 e3
      have hx9 := HX.out
      go_simp
      exact hK x _ (fun _ _ => rfl) ⟨⟨fun _ => by rw [Ls.upd_other _ _ (by decide)]; exact haft ⟨0, .data⟩ (by simp) rfl, fun _ => Ls.upd_same _ _ _⟩, hI.2.1, fun h => hI.2.2.1 (by rwa [Ls.upd_other _ _ (by decide)] at h), fun h h' => hI.2.2.2.1 (by rwa [Ls.upd_other _ _ (by decide)] at h) (by rwa [Ls.upd_other _ _ (by decide)] at h'), fun h => by rw [Ls.upd_other _ _ (by decide)] at h; exact ⟨by rw [Ls.upd_other _ _ (by decide)]; exact (hI.2.2.2.2 h).1, (hI.2.2.2.2 h).2⟩⟩
    · obtain rfl := Option.some.inj ho
      have q1 := (hP.keep (j := 1) (by kernel_rfl)).trans G1
      refine p_load rfl (ev q1) (ldN hI.2.1) ?_
      exact hK x _ (fun _ _ => rfl) (same 5 (by decide) (by decide) (by decide) (by decide))
    · obtain rfl := Option.some.inj ho
      have e4 := hP.got 4 _ 19 rfl (haft ⟨4, .data⟩ (by simp) rfl) rfl
      have e5 := hP.got 5 _ 20 rfl (haft ⟨5, .data⟩ (by simp) rfl) rfl
      try dsimp only at e4 e5
      have K0 := hI.2.2.1 hl
      have h4 := haft ⟨4, .data⟩ (by simp) rfl
      go_simp
      refine (HM.out W9 K0).mono ?_
      rintro e9 w9 ⟨n9, rfl, he9, hh9, hi9, hb9⟩
      have K9 := K0.next hb9
      have hs9 := K0.nb.bel.size
      refine hK n9 _ ?_ ⟨⟨fun _ => by rw [Ls.upd_other _ _ (by decide)]; exact hI.1.1 h4, fun _ => by rw [Ls.upd_other _ _ (by decide)]; exact h4⟩, K9.nb.box, (fun h => by rw [Ls.upd_same] at h; cases h), fun _ _ => ⟨⟨he9, fun b hb ha => hi9 b (by omega) ha, hi9.aw (by have := K0.nb.res.lt; omega) K0.aw⟩, K9.nb, hh9⟩, (fun h => by rw [Ls.upd_other _ _ (by decide)] at h; have := (hI.2.2.2.2 h).1; rw [hl] at this; cases this)⟩
      intro j hj
      match j, hj with
      | 0, _ | 1, _ | 2, _ | 3, _ | 4, _ | 5, _ => rfl
      | 6, hj => rw [hl] at hj; cases hj
      | j + 7, _ => rfl
    · obtain rfl := Option.some.inj ho
      have q2 := (hP.keep (j := 2) (by kernel_rfl)).trans G2
      have h6 := haft ⟨6, .data⟩ (by simp) rfl
      have e6 := hP.got 6 _ 21 rfl h6 rfl
      try dsimp only at e6
      have K0 := hI.2.2.2.1 h6 hl
      refine p_store rfl (ev q2) (ev e6) (stN K0.2.1.res) ?_
      have hN := K0.2.1.ends (m' := x) rfl
      exact hK x _ (fun _ _ => rfl) ⟨⟨fun h => by rw [Ls.upd_other _ _ (by decide)] at h ⊢; exact hI.1.1 h, fun h => by rw [Ls.upd_other _ _ (by decide)] at h ⊢; exact hI.1.2 h⟩, hN.box, (fun h => by rw [Ls.upd_other _ _ (by decide)] at h; rw [h6] at h; cases h), (fun _ h => by rw [Ls.upd_same] at h; cases h), fun _ => ⟨by rw [Ls.upd_other _ _ (by decide)]; exact h6, K0.1, hN, hold_keep (b := w.heap.size) K0.2.2 K0.1.2.2 (fun _ _ hk => puts_other _ _ _ _ hk) (puts_size _ _ _ _)⟩⟩
  case done =>
    rintro l a9 x W9 hP hI hall
    have h9 := hI.2.2.2.2 (hall 7 (by decide))
    have t2 := (hP.keep (j := 2) (by kernel_rfl)).trans G2
    have td := hP.df.trans TD
    have B9 := Lib.hid h9.2.2
    have E9 := Lib.hid h9.2.1
    clear hP hI hall h9
    go_wp2
    exact so_fin (P := P') B9 E9.out.1 E9.out.2.1 rfl td t2
end Go.Proofs.YtfjhhfncapmnmaaGreatDoor.Mu
end
section
namespace Go.Proofs.YtfjhhfncapmnmaaGreatDoor.Mu
open Go.Proofs.YtfjhhfncapmnmaaGreatDoor Go.Proofs.YtfjhhfncapmnmaaGreatDoor.Rt
open Go.RowKit
set_option maxRecDepth 100000

section
variable {w W : World} {B b : Nat} {s : Hs} {t : Ts} {d : Hd_} {F : Nat → List Int} {g : Nat → O4} {P : St} {n m : Tn}
theorem hp_off (h : Hp w B s d) (ha : OffH b s) (hs : ∀ k, ¬ k = b → W.heap[k]? = w.heap[k]?) : Hp W B s d :=
  have k := fun {u : Ls.Sl} (h : Off b u) (hn : 0 < u.n) x hx => hs x.block (h hn x hx)
  ⟨row_keep h.words (k ha.w), prow_keep h.pages (k ha.p), fun j hj => ⟨row_keep (h.free j hj).1 (k (ha.u j hj)), (h.free j hj).2⟩, brow_keep h.cards (k ha.c)⟩
theorem th_off (h : Th w B t F g) (ha : OffT b t) (hs : ∀ k, ¬ k = b → W.heap[k]? = w.heap[k]?) : Th W B t F g :=
  have k := fun {u : Ls.Sl} (h : Off b u) (hn : 0 < u.n) x hx => hs x.block (h hn x hx)
  ⟨fun j hj => ⟨row_keep (h.c j hj).1 (k (ha.u j hj)), (h.c j hj).2⟩, h.o.same (k ha.o), h.k⟩
theorem hold_off (h : Hold w P) (ha : OffN b P.n) (hs : ∀ k, ¬ k = b → W.heap[k]? = w.heap[k]?) (hz : W.heap.size = w.heap.size) : Hold W P :=
  ⟨by rw [hz]; exact hp_off h.h ha.h hs, by rw [hz]; exact row_keep h.c (fun hn x hx => hs x.block (ha.k hn x hx)), by rw [hz]; exact th_off h.t ha.t hs⟩
theorem offh_old (h : Hp w b s d) : OffH b s := ⟨fun hn x hx => by have := row_lies h.words hn x hx; omega, fun hn x hx => by have := prow_lies h.pages hn x hx; omega, fun j hj hn x hx => by have := row_lies (h.free j hj).1 hn x hx; omega, fun hn x hx => by have := brow_lies h.cards hn x hx; omega⟩
theorem offt_old (h : Th w b t F g) : OffT b t := ⟨fun j hj hn x hx => by have := row_lies (h.c j hj).1 hn x hx; omega, fun hn x hx => by have := orow_lies h.o hn x hx; omega⟩
/-- All of a turn lies in new memory. -/
structure NewN (B : Nat) (n : Tn) : Prop where
  h : News B n.s
  k : 0 < n.k.wk.n → ∀ x, n.k.wk.a = some x → B ≤ x.block
  u : ∀ j, j < 3 → 0 < (n.t.u j).n → ∀ x, (n.t.u j).a = some x → B ≤ x.block
  o : 0 < n.t.o.n → ∀ x, n.t.o.a = some x → B ≤ x.block
theorem NewN.off (h : NewN B n) (hb : b < B) : OffN b n :=
  ⟨⟨fun hn x hx => by have := h.h.w hn x hx; omega, fun hn x hx => by have := h.h.p hn x hx; omega, fun j hj hn x hx => by have := h.h.u j hj hn x hx; omega, fun hn x hx => by have := h.h.c hn x hx; omega⟩, fun hn x hx => by have := h.k hn x hx; omega, ⟨fun j hj hn x hx => by have := h.u j hj hn x hx; omega, fun hn x hx => by have := h.o hn x hx; omega⟩⟩
theorem NewN.aw (h : NewN B n) (hb : b + 2 ≤ B) : AwN b n :=
  ⟨⟨fun hn x hx => by have := h.h.w hn x hx; omega, fun hn x hx => by have := h.h.p hn x hx; omega, fun j hj hn x hx => by have := h.h.u j hj hn x hx; omega, fun hn x hx => by have := h.h.c hn x hx; omega⟩, fun hn x hx => by have := h.k hn x hx; omega, ⟨fun j hj hn x hx => by have := h.u j hj hn x hx; omega, fun hn x hx => by have := h.o hn x hx; omega⟩⟩
/-- What a method returns is new, too. -/
theorem NewN.inh (h : NewN B m) (hi : Inh W m n) (hB : B ≤ W.heap.size) : NewN B n := by
  have key : ∀ b, b < B → OffN b n := fun b hb => hi b (by omega) (h.off hb)
  have one : ∀ (u : Ls.Sl) (_ : ∀ b, b < B → Off b u), 0 < u.n → ∀ x, u.a = some x → B ≤ x.block := fun u hu hn x hx => Nat.le_of_not_lt fun hlt => hu x.block hlt hn x hx rfl
  exact ⟨⟨one _ fun b hb => (key b hb).h.w, one _ fun b hb => (key b hb).h.p, fun j hj => one _ fun b hb => (key b hb).h.u j hj, one _ fun b hb => (key b hb).h.c⟩, one _ fun b hb => (key b hb).k, fun j hj => one _ fun b hb => (key b hb).t.u j hj, one _ fun b hb => (key b hb).t.o⟩
theorem NewN.less (h : NewN B n) (hb : b ≤ B) : NewN b n := ⟨⟨fun hn x hx => Nat.le_trans hb (h.h.w hn x hx), fun hn x hx => Nat.le_trans hb (h.h.p hn x hx), fun j hj hn x hx => Nat.le_trans hb (h.h.u j hj hn x hx), fun hn x hx => Nat.le_trans hb (h.h.c hn x hx)⟩, fun hn x hx => Nat.le_trans hb (h.k hn x hx), fun j hj hn x hx => Nat.le_trans hb (h.u j hj hn x hx), fun hn x hx => Nat.le_trans hb (h.o hn x hx)⟩
end
/-- The boxes of the arguments, and of the results. -/
structure Sp (w W : World) (s : Hs) (k : Sh.Ks) (t : Ts) : Prop where
  bel : Below w.heap.size w W
  hb : Box W w.heap.size (hv s)
  kb : Box W (w.heap.size + 1) (kv k)
  tb : Box W (w.heap.size + 2) (tv t)
  rh : Box W (w.heap.size + 3) (hv noHs0)
  rk : Box W (w.heap.size + 4) (kv noK0)
  rt : Box W (w.heap.size + 5) (tv noT)
  rr : Box W (w.heap.size + 6) (qv o0 0 0)
section
variable {w W W' : World} {s : Hs} {k : Sh.Ks} {t : Ts} {b : Nat}
theorem Sp.size (h : Sp w W s k t) : w.heap.size + 7 ≤ W.heap.size := by have := h.rr.lt; omega
theorem Sp.same (h : Sp w W s k t) (hb : Below (w.heap.size + 7) W W') : Sp w W' s k t :=
  have q := fun b (hl : b < w.heap.size + 7) => hb.block b hl
  ⟨h.bel.trans (hb.mono (by omega)), h.hb.same (q _ (by omega)) hb.size, h.kb.same (q _ (by omega)) hb.size, h.tb.same (q _ (by omega)) hb.size, h.rh.same (q _ (by omega)) hb.size, h.rk.same (q _ (by omega)) hb.size, h.rt.same (q _ (by omega)) hb.size, h.rr.same (q _ (by omega)) hb.size⟩
theorem Sp.next (h : Sp w W s k t) (hb : Below W.heap.size W W') : Sp w W' s k t := h.same (hb.mono h.size)
theorem sp_start (s : Hs) (k : Sh.Ks) (t : Ts) {t1 t2 t3 t4 t5 t6 t7 : TypeId} (h : W = ((((((w.alloc (.cells (hv s).toArray t1)).alloc (.cells (kv k).toArray t2)).alloc (.cells (tv t).toArray t3)).alloc (.cells (hv noHs0).toArray t4)).alloc (.cells (kv noK0).toArray t5)).alloc (.cells (tv noT).toArray t6)).alloc (.cells (qv o0 0 0).toArray t7)) : Sp w W s k t := by
  obtain ⟨W1, h1⟩ : ∃ W1, W1 = w.alloc (.cells (hv s).toArray t1) := ⟨_, rfl⟩
  obtain ⟨W2, h2⟩ : ∃ W2, W2 = W1.alloc (.cells (kv k).toArray t2) := ⟨_, rfl⟩
  obtain ⟨W3, h3⟩ : ∃ W3, W3 = W2.alloc (.cells (tv t).toArray t3) := ⟨_, rfl⟩
  obtain ⟨W4, h4⟩ : ∃ W4, W4 = W3.alloc (.cells (hv noHs0).toArray t4) := ⟨_, rfl⟩
  obtain ⟨W5, h5⟩ : ∃ W5, W5 = W4.alloc (.cells (kv noK0).toArray t5) := ⟨_, rfl⟩
  obtain ⟨W6, h6⟩ : ∃ W6, W6 = W5.alloc (.cells (tv noT).toArray t6) := ⟨_, rfl⟩
  rw [← h1, ← h2, ← h3, ← h4, ← h5, ← h6] at h
  have z1 : W1.heap.size = w.heap.size + 1 := by rw [h1]; simp
  have z2 : W2.heap.size = w.heap.size + 2 := by rw [h2]; simp [z1]
  have z3 : W3.heap.size = w.heap.size + 3 := by rw [h3]; simp [z2]
  have z4 : W4.heap.size = w.heap.size + 4 := by rw [h4]; simp [z3]
  have z5 : W5.heap.size = w.heap.size + 5 := by rw [h5]; simp [z4]
  have z6 : W6.heap.size = w.heap.size + 6 := by rw [h6]; simp [z5]
  have b1 : Below w.heap.size w W1 := by rw [h1]; exact (Below.refl _ _).alloc (Nat.le_refl _) _
  have b2 : Below W1.heap.size W1 W2 := by rw [h2]; exact (Below.refl _ _).alloc (Nat.le_refl _) _
  have b3 : Below W2.heap.size W2 W3 := by rw [h3]; exact (Below.refl _ _).alloc (Nat.le_refl _) _
  have b4 : Below W3.heap.size W3 W4 := by rw [h4]; exact (Below.refl _ _).alloc (Nat.le_refl _) _
  have b5 : Below W4.heap.size W4 W5 := by rw [h5]; exact (Below.refl _ _).alloc (Nat.le_refl _) _
  have b6 : Below W5.heap.size W5 W6 := by rw [h6]; exact (Below.refl _ _).alloc (Nat.le_refl _) _
  have b7 : Below W6.heap.size W6 W := by rw [h]; exact (Below.refl _ _).alloc (Nat.le_refl _) _
  have x1 : Box W1 w.heap.size (hv s) := by rw [h1]; exact Box.new w (hv s) t1
  have x2 : Box W2 (w.heap.size + 1) (kv k) := by rw [h2, ← z1]; exact Box.new W1 (kv k) t2
  have x3 : Box W3 (w.heap.size + 2) (tv t) := by rw [h3, ← z2]; exact Box.new W2 (tv t) t3
  have x4 : Box W4 (w.heap.size + 3) (hv noHs0) := by rw [h4, ← z3]; exact Box.new W3 (hv noHs0) t4
  have x5 : Box W5 (w.heap.size + 4) (kv noK0) := by rw [h5, ← z4]; exact Box.new W4 (kv noK0) t5
  have x6 : Box W6 (w.heap.size + 5) (tv noT) := by rw [h6, ← z5]; exact Box.new W5 (tv noT) t6
  have x7 : Box W (w.heap.size + 6) (qv o0 0 0) := by rw [h, ← z6]; exact Box.new W6 (qv o0 0 0) t7
  exact ⟨b1.trans ((b2.mono (by omega)).trans ((b3.mono (by omega)).trans ((b4.mono (by omega)).trans ((b5.mono (by omega)).trans ((b6.mono (by omega)).trans (b7.mono (by omega))))))),
    (((((x1.next b2).next b3).next b4).next b5).next b6).next b7, ((((x2.next b3).next b4).next b5).next b6).next b7, (((x3.next b4).next b5).next b6).next b7, ((x4.next b5).next b6).next b7, (x5.next b6).next b7, x6.next b7, x7⟩
/-- Loads of whole arguments. -/
theorem ldHb (h : Box W b (hv s)) : (Instr.loadAt 28 (.pointer (some ⟨b, 0, none⟩))).run Tryz.prog W = .ok (.agg #[.slice s.w.a s.w.n s.w.c, .slice s.p.a s.p.n s.p.c, .slice (s.u 0).a (s.u 0).n (s.u 0).c, .slice (s.u 1).a (s.u 1).n (s.u 1).c, .slice (s.u 2).a (s.u 2).n (s.u 2).c, .slice s.c.a s.c.n s.c.c]) W := ld h (cs := hv s) (Part.refl _) _ Tryz.underlying28 rfl infH
theorem ldKb (h : Box W b (kv k)) : (Instr.loadAt 30 (.pointer (some ⟨b, 0, none⟩))).run Tryz.prog W = .ok (.agg #[.int .i64 k.ph, .int .i64 k.ep, .bool k.mj, .slice k.wk.a k.wk.n k.wk.c, .bool k.ov, .int .i64 k.pa, .int .i64 k.pf, .int .i64 k.ps, .int .i64 k.pc, .bool k.me]) W := ld h (cs := kv k) (Part.refl _) _ Tryz.underlying30 rfl infK
theorem ldTb (h : Box W b (tv t)) : (Instr.loadAt 34 (.pointer (some ⟨b, 0, none⟩))).run Tryz.prog W = .ok (.agg #[.bool t.lv, .int .i64 (t.r 0), .int .i64 (t.r 1), .int .i64 (t.r 2), .int .i64 (t.r 3), .slice (t.u 0).a (t.u 0).n (t.u 0).c, .slice (t.u 1).a (t.u 1).n (t.u 1).c, .slice (t.u 2).a (t.u 2).n (t.u 2).c, .int .i64 t.ep, .int .i64 t.sg, .int .i64 t.rt, .slice t.o.a t.o.n t.o.c, .int .i64 t.pc, .int .i64 t.x, .int .i64 t.y]) W := ld h (cs := tv t) (Part.refl _) _ Tryz.underlying34 rfl infT
/-- The first operation. -/
theorem ldO {o : Ls.Sl} {g : Nat → O4} {off : Nat} (h : ORow W W.heap.size o.a o.n g) (hn : 0 < o.n) (ha : o.a = some ⟨b, off, none⟩) : (Instr.loadAt 39 (.pointer (some ⟨b, off, none⟩))).run Tryz.prog W = .ok (.agg #[.int .i64 (g 0).k, .int .i64 (g 0).a, .int .i64 (g 0).b, .int .i64 (g 0).c]) W := by
  obtain ⟨b', off', e, _, hc⟩ := h hn
  rw [ha] at e
  cases e
  obtain ⟨c0, c1, c2, c3⟩ := hc 0 hn
  refine run_loadAt_mid W b off _ (pv (g 0)) _ (fun j v hj => ?_) Tryz.underlying39 rfl infP
  match j, hj with
  | 0, hj => cases hj; simpa using c0
  | 1, hj => cases hj; simpa using c1
  | 2, hj => cases hj; simpa using c2
  | 3, hj => cases hj; simpa using c3
  | j + 4, hj => cases hj
end
/-- What stands while the turn is made: copies, its box. -/
structure Gx where
  s : Hs
  v : Ls.Sl
  u : Nat → Ls.Sl
  o : Ls.Sl
  b : Nat
def gN (x : Gx) (k : Sh.Ks) (t : Ts) : Tn := ⟨x.s, Sh.kw k x.v k.ov, tw t x.u x.o, o0, o0, 0, 0, false⟩
structure Jn (w : World) (s : Hs) (k : Sh.Ks) (t : Ts) (d : Hd_) (xs : List Int) (F : Nat → List Int) (g : Nat → O4) (x : Gx) (l : Nat → Bool) (W : World) : Prop where
  sp : Sp w W s k t
  c6 : l 6 = true → l 1 = true ∧ l 3 = true ∧ l 5 = true
  c8 : l 8 = true → l 6 = true ∧ l 7 = true
  h1 : l 1 = true → Hp W W.heap.size x.s d ∧ Lens s x.s ∧ News (w.heap.size + 7) x.s ∧ (l 7 = true → OffH x.b x.s)
  h3 : l 3 = true → Row W W.heap.size x.v.a x.v.n xs ∧ (0 < x.v.n → ∀ y, x.v.a = some y → w.heap.size + 7 ≤ y.block) ∧ (l 7 = true → Off x.b x.v)
  h5 : l 5 = true → Th W W.heap.size (tw t x.u x.o) F g ∧ x.o.n = t.o.n ∧ ((∀ j, j < 3 → ∀ y, (x.u j).a = some y → w.heap.size + 7 ≤ y.block) ∧ (0 < x.o.n → ∀ y, x.o.a = some y → w.heap.size + 7 ≤ y.block)) ∧ (l 7 = true → OffT x.b (tw t x.u x.o))
  h7 : l 7 = true → w.heap.size + 7 ≤ x.b ∧ x.b < W.heap.size ∧ (l 8 = false → Box W x.b (nv noN))
  h8 : l 8 = true → Box W x.b (nv (gN x k t))
section
variable {w W W' : World} {s s' : Hs} {k : Sh.Ks} {t : Ts} {d : Hd_} {xs : List Int} {F : Nat → List Int} {g : Nat → O4} {x : Gx} {l : Nat → Bool} {v' o' : Ls.Sl} {u' : Nat → Ls.Sl}
theorem Jn.next (h : Jn w s k t d xs F g x l W) (hb : Below W.heap.size W W') : Jn w s k t d xs F g x l W' :=
  ⟨h.sp.next hb, h.c6, h.c8, fun e => ⟨(h.h1 e).1.next hb, (h.h1 e).2⟩, fun e => ⟨((h.h3 e).1.below hb).more hb.size, (h.h3 e).2⟩, fun e => ⟨(h.h5 e).1.next hb, (h.h5 e).2⟩, fun e => ⟨(h.h7 e).1, Nat.lt_of_lt_of_le (h.h7 e).2.1 hb.size, fun e' => ((h.h7 e).2.2 e').next hb⟩, fun e => (h.h8 e).next hb⟩
theorem jn_start (h : Sp w W s k t) : Jn w s k t d xs F g ⟨noHs0, ⟨none, 0, 0⟩, Ls.noSl, ⟨none, 0, 0⟩, 0⟩ (fun _ => false) W :=
  ⟨h, fun e => (by cases e), fun e => (by cases e), fun e => (by cases e), fun e => (by cases e), fun e => (by cases e), fun e => (by cases e), fun e => (by cases e)⟩
theorem Jn.pure (h : Jn w s k t d xs F g x l W) {i : Nat} (hi : i = 0 ∨ i = 2 ∨ i = 4) : Jn w s k t d xs F g x (Ls.upd l i true) W := by
  have q : ∀ j, j = 1 ∨ j = 3 ∨ j = 5 ∨ j = 6 ∨ j = 7 ∨ j = 8 → Ls.upd l i true j = l j := fun j hj => Ls.upd_other _ _ (by omega)
  exact ⟨h.sp, by rw [q 6 (by omega), q 1 (by omega), q 3 (by omega), q 5 (by omega)]; exact h.c6, by rw [q 8 (by omega), q 6 (by omega), q 7 (by omega)]; exact h.c8, by rw [q 1 (by omega), q 7 (by omega)]; exact h.h1, by rw [q 3 (by omega), q 7 (by omega)]; exact h.h3, by rw [q 5 (by omega), q 7 (by omega)]; exact h.h5, by rw [q 7 (by omega), q 8 (by omega)]; exact h.h7, by rw [q 8 (by omega)]; exact h.h8⟩
theorem Jn.early (h : Jn w s k t d xs F g x l W) {i : Nat} (hi : i = 1 ∨ i = 3 ∨ i = 5) (hl : l i = false) : l 6 = false ∧ l 8 = false := by
  have h6 : l 6 = false := by
    cases e : l 6 with
    | false => rfl
    | true =>
      obtain ⟨a, b, c⟩ := h.c6 e
      rcases hi with rfl | rfl | rfl
      · rw [a] at hl; cases hl
      · rw [b] at hl; cases hl
      · rw [c] at hl; cases hl
  refine ⟨h6, ?_⟩
  cases e : l 8 with
  | false => rfl
  | true => rw [(h.c8 e).1] at h6; cases h6
theorem Jn.set1 (h : Jn w s k t d xs F g x l W) (hl : l 1 = false) (hp : Hp W W.heap.size s' d) (hL : Lens s s') (hn : News (w.heap.size + 7) s') (ho : l 7 = true → OffH x.b s') : Jn w s k t d xs F g ⟨s', x.v, x.u, x.o, x.b⟩ (Ls.upd l 1 true) W := by
  have q : ∀ j, j = 3 ∨ j = 5 ∨ j = 6 ∨ j = 7 ∨ j = 8 → Ls.upd l 1 true j = l j := fun j hj => Ls.upd_other _ _ (by omega)
  obtain ⟨e6, e8⟩ := h.early (.inl rfl) hl
  exact ⟨h.sp, by rw [q 6 (by omega), e6]; exact fun e => (by cases e), by rw [q 8 (by omega), e8]; exact fun e => (by cases e), fun _ => ⟨hp, hL, hn, by rw [q 7 (by omega)]; exact ho⟩, by rw [q 3 (by omega), q 7 (by omega)]; exact h.h3, by rw [q 5 (by omega), q 7 (by omega)]; exact h.h5, by rw [q 7 (by omega), q 8 (by omega)]; exact h.h7, by rw [q 8 (by omega), e8]; exact fun e => (by cases e)⟩
theorem Jn.set3 (h : Jn w s k t d xs F g x l W) (hl : l 3 = false) (hp : Row W W.heap.size v'.a v'.n xs) (hn : 0 < v'.n → ∀ y, v'.a = some y → w.heap.size + 7 ≤ y.block) (ho : l 7 = true → Off x.b v') : Jn w s k t d xs F g ⟨x.s, v', x.u, x.o, x.b⟩ (Ls.upd l 3 true) W := by
  have q : ∀ j, j = 1 ∨ j = 5 ∨ j = 6 ∨ j = 7 ∨ j = 8 → Ls.upd l 3 true j = l j := fun j hj => Ls.upd_other _ _ (by omega)
  obtain ⟨e6, e8⟩ := h.early (.inr (.inl rfl)) hl
  exact ⟨h.sp, by rw [q 6 (by omega), e6]; exact fun e => (by cases e), by rw [q 8 (by omega), e8]; exact fun e => (by cases e), by rw [q 1 (by omega), q 7 (by omega)]; exact h.h1, fun _ => ⟨hp, hn, by rw [q 7 (by omega)]; exact ho⟩, by rw [q 5 (by omega), q 7 (by omega)]; exact h.h5, by rw [q 7 (by omega), q 8 (by omega)]; exact h.h7, by rw [q 8 (by omega), e8]; exact fun e => (by cases e)⟩
theorem Jn.set5 (h : Jn w s k t d xs F g x l W) (hl : l 5 = false) (ht : Th W W.heap.size (tw t u' o') F g) (hon : o'.n = t.o.n) (hn : ∀ j, j < 3 → ∀ y, (u' j).a = some y → w.heap.size + 7 ≤ y.block) (hm : 0 < o'.n → ∀ y, o'.a = some y → w.heap.size + 7 ≤ y.block) (ho : l 7 = true → OffT x.b (tw t u' o')) : Jn w s k t d xs F g ⟨x.s, x.v, u', o', x.b⟩ (Ls.upd l 5 true) W := by
  have q : ∀ j, j = 1 ∨ j = 3 ∨ j = 6 ∨ j = 7 ∨ j = 8 → Ls.upd l 5 true j = l j := fun j hj => Ls.upd_other _ _ (by omega)
  obtain ⟨e6, e8⟩ := h.early (.inr (.inr rfl)) hl
  exact ⟨h.sp, by rw [q 6 (by omega), e6]; exact fun e => (by cases e), by rw [q 8 (by omega), e8]; exact fun e => (by cases e), by rw [q 1 (by omega), q 7 (by omega)]; exact h.h1, by rw [q 3 (by omega), q 7 (by omega)]; exact h.h3, fun _ => ⟨ht, hon, ⟨hn, hm⟩, by rw [q 7 (by omega)]; exact ho⟩, by rw [q 7 (by omega), q 8 (by omega)]; exact h.h7, by rw [q 8 (by omega), e8]; exact fun e => (by cases e)⟩
theorem Jn.set6 (h : Jn w s k t d xs F g x l W) (h1 : l 1 = true) (h3 : l 3 = true) (h5 : l 5 = true) : Jn w s k t d xs F g x (Ls.upd l 6 true) W := by
  have q : ∀ j, j = 1 ∨ j = 3 ∨ j = 5 ∨ j = 7 ∨ j = 8 → Ls.upd l 6 true j = l j := fun j hj => Ls.upd_other _ _ (by omega)
  exact ⟨h.sp, fun _ => by rw [q 1 (by omega), q 3 (by omega), q 5 (by omega)]; exact ⟨h1, h3, h5⟩, by rw [q 8 (by omega), q 7 (by omega)]; exact fun e => ⟨Ls.upd_same _ _ _, (h.c8 e).2⟩, by rw [q 1 (by omega), q 7 (by omega)]; exact h.h1, by rw [q 3 (by omega), q 7 (by omega)]; exact h.h3, by rw [q 5 (by omega), q 7 (by omega)]; exact h.h5, by rw [q 7 (by omega), q 8 (by omega)]; exact h.h7, by rw [q 8 (by omega)]; exact h.h8⟩
theorem Jn.set7 (h : Jn w s k t d xs F g x l W) (hl : l 7 = false) {ty : TypeId} : Jn w s k t d xs F g ⟨x.s, x.v, x.u, x.o, W.heap.size⟩ (Ls.upd l 7 true) (W.alloc (.cells (nv noN).toArray ty)) := by
  have q : ∀ j, j = 1 ∨ j = 3 ∨ j = 5 ∨ j = 6 ∨ j = 8 → Ls.upd l 7 true j = l j := fun j hj => Ls.upd_other _ _ (by omega)
  have hb : Below W.heap.size W (W.alloc (.cells (nv noN).toArray ty)) := (Below.refl _ _).alloc (Nat.le_refl _) _
  have e8 : l 8 = false := by
    cases e : l 8 with
    | false => rfl
    | true => rw [(h.c8 e).2] at hl; cases hl
  have n := h.next hb
  exact ⟨n.sp, by rw [q 6 (by omega), q 1 (by omega), q 3 (by omega), q 5 (by omega)]; exact h.c6, by rw [q 8 (by omega), e8]; exact fun e => (by cases e),
    by rw [q 1 (by omega)]; exact fun e => ⟨(n.h1 e).1, (n.h1 e).2.1, (n.h1 e).2.2.1, fun _ => offh_old (h.h1 e).1⟩,
    by rw [q 3 (by omega)]; exact fun e => ⟨(n.h3 e).1, (n.h3 e).2.1, fun _ hn y hy => by have := row_lies (h.h3 e).1 hn y hy; show ¬ y.block = W.heap.size; omega⟩,
    by rw [q 5 (by omega)]; exact fun e => ⟨(n.h5 e).1, (n.h5 e).2.1, (n.h5 e).2.2.1, fun _ => offt_old (h.h5 e).1⟩,
    fun _ => ⟨h.sp.size, by rw [World.size_alloc]; exact Nat.lt_succ_self _, fun _ => Box.new W (nv noN) ty⟩, by rw [q 8 (by omega), e8]; exact fun e => (by cases e)⟩
theorem Jn.off (h : Jn w s k t d xs F g x l W) (h6 : l 6 = true) (h7 : l 7 = true) : OffN x.b (gN x k t) := by
  obtain ⟨a, b, c⟩ := h.c6 h6
  exact ⟨(h.h1 a).2.2.2 h7, (h.h3 b).2.2 h7, (h.h5 c).2.2.2 h7⟩
theorem Jn.hold (h : Jn w s k t d xs F g x l W) (h6 : l 6 = true) : Hold W ⟨gN x k t, d, xs, F, g⟩ := by
  obtain ⟨a, b, c⟩ := h.c6 h6
  exact ⟨(h.h1 a).1, (h.h3 b).1, (h.h5 c).1⟩
theorem Jn.set8 (h : Jn w s k t d xs F g x l W) (hl : l 8 = false) (h6 : l 6 = true) (h7 : l 7 = true) : Jn w s k t d xs F g x (Ls.upd l 8 true) (puts x.b 0 (nv (gN x k t)) W) := by
  have q : ∀ j, j = 1 ∨ j = 3 ∨ j = 5 ∨ j = 6 ∨ j = 7 → Ls.upd l 8 true j = l j := fun j hj => Ls.upd_other _ _ (by omega)
  obtain ⟨a, b, c⟩ := h.h7 h7
  have hs : ∀ i, ¬ i = x.b → (puts x.b 0 (nv (gN x k t)) W).heap[i]? = W.heap[i]? := fun i hi => puts_other _ _ _ _ hi
  have hz := puts_size x.b (nv (gN x k t)) 0 W
  have hH := hold_off (h.hold h6) (h.off h6 h7) hs hz
  obtain ⟨e1, e3, e5⟩ := h.c6 h6
  exact ⟨h.sp.same (below_puts _ a _ _ _ (Below.refl _ _)), by rw [q 6 (by omega), q 1 (by omega), q 3 (by omega), q 5 (by omega)]; exact h.c6, fun _ => by rw [q 6 (by omega), q 7 (by omega)]; exact ⟨h6, h7⟩,
    fun _ => ⟨hH.h, (h.h1 e1).2.1, (h.h1 e1).2.2.1, by rw [q 7 (by omega)]; exact (h.h1 e1).2.2.2⟩, fun _ => ⟨hH.c, (h.h3 e3).2.1, by rw [q 7 (by omega)]; exact (h.h3 e3).2.2⟩, fun _ => ⟨hH.t, (h.h5 e5).2.1, (h.h5 e5).2.2.1, by rw [q 7 (by omega)]; exact (h.h5 e5).2.2.2⟩,
    fun _ => ⟨a, by rw [hz]; exact b, fun e => (by rw [Ls.upd_same] at e; cases e)⟩, fun _ => puts_box (c hl)⟩
end
theorem all_row9 {w w' : World} {s : Ls.Sl} {xs : List Int} (ho : w'.ownsRow w.heap.size 3 1 (.slice s.a s.n s.c) s.n (xs.map (Value.int .i64))) : Row w' w'.heap.size s.a s.n xs := by
  obtain ⟨a1, c1, e1, r1, _, _⟩ := Ls.owns_row ho
  simp only [Value.slice.injEq, true_and] at e1
  obtain ⟨rfl, rfl⟩ := e1
  exact r1
/-- While the results are stored. -/
def sel (c : Bool) (x y : List Value) : List Value := if c = true then x else y
structure R5 (w : World) (b : Nat) (n : Tn) (d : Hd_) (xs : List Int) (F : Nat → List Int) (g : Nat → O4) (l : Nat → Bool) (W : World) : Prop where
  bel : Below w.heap.size w W
  box : Box W b (nv n)
  hold : Hold W ⟨n, d, xs, F, g⟩
  rh : Box W (w.heap.size + 3) (sel (l 10) (hv n.s) (hv noHs0))
  rk : Box W (w.heap.size + 4) (sel (l 11) (kv n.k) (kv noK0))
  rt : Box W (w.heap.size + 5) (sel (l 12) (tv n.t) (tv noT))
  rr : Box W (w.heap.size + 6) (sel (l 13) (qv n.q n.e n.v) (qv o0 0 0))
section
variable {w W : World} {s : Hs} {k : Sh.Ks} {t : Ts} {b : Nat} {n : Tn} {d : Hd_} {xs : List Int} {F : Nat → List Int} {g : Nat → O4} {l : Nat → Bool}
theorem r5_start (h : Sp w W s k t) (hb : Box W b (nv n)) (hh : Hold W ⟨n, d, xs, F, g⟩) : R5 w b n d xs F g (fun _ => false) W := ⟨h.bel, hb, hh, h.rh, h.rk, h.rt, h.rr⟩
theorem R5.pure (h : R5 w b n d xs F g l W) {i : Nat} (hi : i < 10 ∨ i = 14) : R5 w b n d xs F g (Ls.upd l i true) W := by
  have q : ∀ j, 10 ≤ j → j ≤ 13 → Ls.upd l i true j = l j := fun j h1 h2 => Ls.upd_other _ _ (by omega)
  exact ⟨h.bel, h.box, h.hold, by rw [q 10 (by omega) (by omega)]; exact h.rh, by rw [q 11 (by omega) (by omega)]; exact h.rk, by rw [q 12 (by omega) (by omega)]; exact h.rt, by rw [q 13 (by omega) (by omega)]; exact h.rr⟩
theorem box_puts {us vs : List Value} (h : Box W b us) (hl : vs.length = us.length) : Box (puts b 0 vs W) b vs := by
  have := Box.puts vs 0 h
  rw [sets_eq vs 0 us (by omega)] at this
  simpa [hl] using this
theorem sel_len {c : Bool} {x y : List Value} (h : x.length = y.length) : (sel c x y).length = x.length := by
  unfold sel
  split
  · rfl
  · exact h.symm
theorem R5.put (h : R5 w b n d xs F g l W) (hn : NewN (w.heap.size + 7) n) (hb : w.heap.size + 7 ≤ b) {i : Nat} {cs : List Value} (hi : 10 ≤ i) (hi' : i ≤ 13)
    (hc : (i = 10 → cs = hv n.s) ∧ (i = 11 → cs = kv n.k) ∧ (i = 12 → cs = tv n.t) ∧ (i = 13 → cs = qv n.q n.e n.v)) : R5 w b n d xs F g (Ls.upd l i true) (puts (w.heap.size + (i - 7)) 0 cs W) := by
  have ho := fun j (hj : ¬ j = i) => Ls.upd_other l true hj
  have hs : ∀ k, ¬ k = w.heap.size + (i - 7) → (puts (w.heap.size + (i - 7)) 0 cs W).heap[k]? = W.heap[k]? := fun k hk => puts_other _ _ _ _ hk
  have hz := puts_size (w.heap.size + (i - 7)) cs 0 W
  refine ⟨below_puts _ (by omega) _ _ _ h.bel, h.box.same (hs _ (by omega)) (Nat.le_of_eq hz.symm), hold_off h.hold (hn.off (by omega)) hs hz, ?_, ?_, ?_, ?_⟩
  · by_cases e : i = 10
    · subst e
      rw [hc.1 rfl, Ls.upd_same]
      exact box_puts h.rh (sel_len (x := hv n.s) (y := hv noHs0) rfl).symm
    · rw [ho 10 (by omega)]
      exact h.rh.same (hs _ (by omega)) (Nat.le_of_eq hz.symm)
  · by_cases e : i = 11
    · subst e
      rw [hc.2.1 rfl, Ls.upd_same]
      exact box_puts h.rk (sel_len (x := kv n.k) (y := kv noK0) rfl).symm
    · rw [ho 11 (by omega)]
      exact h.rk.same (hs _ (by omega)) (Nat.le_of_eq hz.symm)
  · by_cases e : i = 12
    · subst e
      rw [hc.2.2.1 rfl, Ls.upd_same]
      exact box_puts h.rt (sel_len (x := tv n.t) (y := tv noT) rfl).symm
    · rw [ho 12 (by omega)]
      exact h.rt.same (hs _ (by omega)) (Nat.le_of_eq hz.symm)
  · by_cases e : i = 13
    · subst e
      rw [hc.2.2.2 rfl, Ls.upd_same]
      exact box_puts h.rr (sel_len (x := qv n.q n.e n.v) (y := qv o0 0 0) rfl).symm
    · rw [ho 13 (by omega)]
      exact h.rr.same (hs _ (by omega)) (Nat.le_of_eq hz.symm)
theorem ldB (h : Box W b (nv n)) : (Instr.loadAt 4 (.pointer (some ⟨b, 42, none⟩))).run Tryz.prog W = .ok (.bool n.b) W := by
  have c := h.cel 42 (.bool n.b) rfl
  go_simp
theorem res_step {tm : Array Value} {vb : Value} {bh bk bt br : Nat} {u : Hs} {q : Sh.Ks} {v : Ts} {p : O4} {x y : Int} (h6 : tm[6]? = some (.pointer (some ⟨bh, 0, none⟩))) (h7 : tm[7]? = some (.pointer (some ⟨bk, 0, none⟩))) (h8 : tm[8]? = some (.pointer (some ⟨bt, 0, none⟩))) (h9 : tm[9]? = some (.pointer (some ⟨br, 0, none⟩))) (h10 : tm[10]? = some vb)
    (xh : Box W bh (hv u)) (xk : Box W bk (kv q)) (xt : Box W bt (tv v)) (xr : Box W br (qv p x y)) : (results Tryz.f13 tm).run Tryz.prog W = .ok (.tuple #[(.agg #[.slice u.w.a u.w.n u.w.c, .slice u.p.a u.p.n u.p.c, .slice (u.u 0).a (u.u 0).n (u.u 0).c, .slice (u.u 1).a (u.u 1).n (u.u 1).c, .slice (u.u 2).a (u.u 2).n (u.u 2).c, .slice u.c.a u.c.n u.c.c]), (.agg #[.int .i64 q.ph, .int .i64 q.ep, .bool q.mj, .slice q.wk.a q.wk.n q.wk.c, .bool q.ov, .int .i64 q.pa, .int .i64 q.pf, .int .i64 q.ps, .int .i64 q.pc, .bool q.me]), (.agg #[.bool v.lv, .int .i64 (v.r 0), .int .i64 (v.r 1), .int .i64 (v.r 2), .int .i64 (v.r 3), .slice (v.u 0).a (v.u 0).n (v.u 0).c, .slice (v.u 1).a (v.u 1).n (v.u 1).c, .slice (v.u 2).a (v.u 2).n (v.u 2).c, .int .i64 v.ep, .int .i64 v.sg, .int .i64 v.rt, .slice v.o.a v.o.n v.o.c, .int .i64 v.pc, .int .i64 v.x, .int .i64 v.y]), .agg #[.int .i64 0, .int .i64 p.k, .int .i64 p.a, .int .i64 p.b, .int .i64 p.c, .int .i64 x, .int .i64 y], vb]) W := by
  have l1 := run_loadVar_mid (P := Tryz.prog) W bh 0 28 (hv u) _ (fun j v hj => by rw [Nat.zero_add]; exact xh.cel j v hj) Tryz.underlying28 rfl infH
  have l2 := run_loadVar_mid (P := Tryz.prog) W bk 0 30 (kv q) _ (fun j v hj => by rw [Nat.zero_add]; exact xk.cel j v hj) Tryz.underlying30 rfl infK
  have l3 := run_loadVar_mid (P := Tryz.prog) W bt 0 34 (tv v) _ (fun j v hj => by rw [Nat.zero_add]; exact xt.cel j v hj) Tryz.underlying34 rfl infT
  have l4 := run_loadVar_mid (P := Tryz.prog) W br 0 42 (qv p x y) _ (fun j v hj => by rw [Nat.zero_add]; exact xr.cel j v hj) Tryz.underlying42 rfl infQ
  simp [results, Tryz.results13, h6, h7, h8, h9, h10, asAddr, l1, l2, l3, l4]
  exact ⟨rfl, rfl, rfl, rfl⟩
end
end Go.Proofs.YtfjhhfncapmnmaaGreatDoor.Mu
end
