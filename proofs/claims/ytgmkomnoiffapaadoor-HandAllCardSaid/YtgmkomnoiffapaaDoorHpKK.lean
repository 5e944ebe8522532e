/-
  Merged texts: HaApp, HaG, HaG2, HaApp2, RtIns, HaIns, HpIns, HpLess, HpSix, AlIns, ShIns.
-/
import Derived.Test.YtgmkomnoiffapaaDoorHpKJ
import Derived.Test.YtgmkomnoiffapaaDoorHpKF
import Derived.Test.YtgmkomnoiffapaaDoorHpKA
import Derived.Test.YtgmkomnoiffapaaDoorHpKH
import Derived.Test.YtgmkomnoiffapaaDoorHpKG
import Derived.ProofKit
import Derived.OpenShut
import Derived.ShutString
import Derived.ChangeOld
import Derived.Laws.IdiomArrays
import Derived.Deep.Slices
import Derived.Test.YtgmkomnoiffapaaDoorCards
import Derived.Test.YtgmkomnoiffapaaDoorTie
import Derived.Test.YtgmkomnoiffapaaDoorHpKE
import Derived.Deep.SlicePairs
import Derived.Deep.Fields
import Derived.LaidMore
import Derived.Lib.LaidTab
import Derived.Stop.Joined
import Derived.SevenTiedAt
import Derived.Test.YtgmkomnoiffapaaDoorRows
import Derived.WalkKit
section
namespace Go.Proofs.YtgmkomnoiffapaaDoor.Ha
open Go.Proofs.YtgmkomnoiffapaaDoor Go.Proofs.YtgmkomnoiffapaaDoor.Rt
open Go.RowKit
set_option maxRecDepth 100000

def tcell (g : Nat → Ts) (j : Nat) : Value := (tv (g (j / 15))).getD (j % 15) (.bool false)
def tcells (g : Nat → Ts) (n : Nat) : List Value := (List.range (n * 15)).map (tcell g)
theorem tcells_length (g : Nat → Ts) (n : Nat) : (tcells g n).length = n * 15 := by simp [tcells]
theorem tcells_get (g : Nat → Ts) (n j : Nat) (h : j < n * 15) : (tcells g n)[j]? = some (tcell g j) := by simp [tcells, h]
theorem tcell_at (g : Nat → Ts) (i r : Nat) (hr : r < 15) : (tv (g i))[r]? = some (tcell g (i * 15 + r)) := by
  have hl : r < (tv (g i)).length := hr
  unfold tcell
  rw [show (i * 15 + r) / 15 = i by omega, show (i * 15 + r) % 15 = r by omega, List.getD_eq_getElem?_getD, List.getElem?_eq_getElem hl]
  rfl
theorem tcell_one (g : Nat → Ts) (j : Nat) : (tcell g j).oneCell' = true := by
  have hr : j % 15 < 15 := Nat.mod_lt _ (by decide)
  have h := tcell_at g (j / 15) (j % 15) hr
  rw [show j / 15 * 15 + j % 15 = j by omega] at h
  obtain ⟨r, hr'⟩ : ∃ r, r = j % 15 := ⟨_, rfl⟩
  rw [← hr'] at h hr
  clear hr'
  match r, hr with
  | 0, _ => rw [← Option.some.inj h]; rfl
  | 1, _ => rw [← Option.some.inj h]; rfl
  | 2, _ => rw [← Option.some.inj h]; rfl
  | 3, _ => rw [← Option.some.inj h]; rfl
  | 4, _ => rw [← Option.some.inj h]; rfl
  | 5, _ => rw [← Option.some.inj h]; rfl
  | 6, _ => rw [← Option.some.inj h]; rfl
  | 7, _ => rw [← Option.some.inj h]; rfl
  | 8, _ => rw [← Option.some.inj h]; rfl
  | 9, _ => rw [← Option.some.inj h]; rfl
  | 10, _ => rw [← Option.some.inj h]; rfl
  | 11, _ => rw [← Option.some.inj h]; rfl
  | 12, _ => rw [← Option.some.inj h]; rfl
  | 13, _ => rw [← Option.some.inj h]; rfl
  | 14, _ => rw [← Option.some.inj h]; rfl
/-- One row behind the other. -/
def cat (g : Nat → Ts) (n : Nat) (f : Nat → Ts) : Nat → Ts := fun i => if i < n then g i else f (i - n)
theorem tcells_cat (g f : Nat → Ts) (n m : Nat) : tcells g n ++ tcells f m = tcells (cat g n f) (n + m) := by
  refine List.ext_getElem? fun j => ?_
  by_cases h : j < n * 15
  · rw [List.getElem?_append_left (by rw [tcells_length]; exact h), tcells_get _ _ _ h, tcells_get _ _ _ (by omega)]
    unfold tcell cat
    rw [if_pos (show j / 15 < n by omega)]
  · rw [List.getElem?_append_right (by rw [tcells_length]; omega), tcells_length]
    by_cases h2 : j < (n + m) * 15
    · rw [tcells_get _ _ _ (by omega), tcells_get _ _ _ h2]
      unfold tcell cat
      rw [if_neg (show ¬ j / 15 < n by omega), show (j - n * 15) / 15 = j / 15 - n by omega, show (j - n * 15) % 15 = j % 15 by omega]
    · rw [List.getElem?_eq_none (by rw [tcells_length]; omega), List.getElem?_eq_none (by rw [tcells_length]; omega)]
section
variable {w w' : World} {base B m cp n c : Nat} {p A : Option Addr} {xs : List Value} {g : Nat → Ts}
theorem TRow.src {b off : Nat} (h : TRow w B (some ⟨b, off, none⟩) n g) (j : Nat) (u : Value) (hj : (tcells g n)[j]? = some u) : w.cell? ⟨b, off + j, none⟩ = some u := by
  have hlt : j < n * 15 := by
    have := (List.getElem?_eq_some_iff.1 hj).1
    rwa [tcells_length] at this
  obtain ⟨b', off', e, _, hc⟩ := h (by omega)
  cases e
  rw [tcells_get _ _ _ hlt] at hj
  have := hc (j / 15) (by omega) (j % 15) _ (tcell_at g (j / 15) (j % 15) (Nat.mod_lt _ (by decide)))
  rw [show off + j / 15 * 15 + j % 15 = off + j by omega, show j / 15 * 15 + j % 15 = j by omega] at this
  rw [this, hj]
theorem info_th : (Tryd.prog.info? 33).map (fun i => (i.zero, i.size, i.bytes)) = some (some (.agg #[.bool false, .int .i64 0, .int .i64 0, .int .i64 0, .int .i64 0, .slice none 0 0, .slice none 0 0, .slice none 0 0, .int .i64 0, .int .i64 0, .int .i64 0, .slice none 0 0, .int .i64 0, .int .i64 0, .int .i64 0]), 15, 184) := by kernel_rfl
theorem tsrc_none (A : Option Addr) (c : Nat) : Src Tryd.prog 15 25 (.slice A 0 c) 0 [] w := by
  cases A with
  | none => exact Src.ofNil w Tryd.underlying25 c
  | some a => exact Src.ofSlice w Tryd.underlying25 a 0 c [] rfl (by simp) (by simp)
/-- What a row of the walk's own is. -/
theorem trow_own {v : Value} (h : w.ownsRow base 33 15 v n (tcells g n)) : ∃ s : Ls.Sl, v = .slice s.a n s.c ∧ s.n = n ∧ TRow w w.heap.size s.a n g ∧ n ≤ s.c := by
  rcases h.2 with ⟨rfl, h0⟩ | ⟨g', c, cur, rfl, hb, hh, hnc, hcm, _⟩
  · subst h0
    exact ⟨⟨none, 0, 0⟩, rfl, rfl, TRow.empty _ _ _ _, Nat.le_refl _⟩
  · refine ⟨⟨some ⟨g', 0, none⟩, n, c⟩, rfl, rfl, fun hn => ⟨g', 0, rfl, (Array.getElem?_eq_some_iff.1 hh).1, fun i hi j v hv => ?_⟩, hnc⟩
    have hj : j < 15 := (List.getElem?_eq_some_iff.1 hv).1
    rw [tcell_at g i j hj] at hv
    have := h.cellAt (i * 15 + j) (by omega)
    rw [tcells_get _ _ _ (by omega), hv] at this
    rw [show 0 + i * 15 + j = i * 15 + j by omega]
    exact this
theorem run_tcat (ty : TypeId) (h : w.ownsRow base 33 15 (.slice p m cp) m xs) (hr : TRow w B A n g) (hb : base ≤ w.heap.size) (hlen : m + n ≤ 1000) :
    ∃ v w', (Builtin.append_ #[25, 25] ty #[.slice p m cp, .slice A n c]).run Tryd.prog w = .ok v w' ∧ w'.ownsRow base 33 15 v (m + n) (xs ++ tcells g n) ∧ w.grownBy w' (Value.slice p m cp).ownBlock := by
  obtain ⟨i0, hi, hz0, hz1, hz2⟩ := oinfo_parts info_th
  by_cases hn : n = 0
  · subst hn
    have hle : m ≤ cp := by
      rcases h.2 with ⟨e, h0⟩ | ⟨g', c', cur, e, _, _, hnc, _⟩
      · cases e; omega
      · cases e; exact hnc
    refine ⟨_, w, run_append_nothing w 25 25 ty 33 i0 Tryd.underlying25 hi p m cp hle _ (by rw [hz1]; exact tsrc_none A c), ?_, ⟨rfl, rfl, rfl, Nat.le_refl _, fun _ _ _ => rfl⟩⟩
    rw [show tcells g 0 = [] from rfl, List.append_nil]
    exact h
  · obtain ⟨b, off, e, _, _⟩ := hr (by omega)
    subst e
    obtain ⟨v', w', hrun, h2, h3, _⟩ := run_append_own (P := Tryd.prog) w base 25 ty 33 i0 _ 15 184 Tryd.underlying25 hi hz0 hz1 hz2 rfl (by decide) _ m xs h ⟨b, off, none⟩ n c (tcells g n) (tcells_length g n) (fun j u hj => by rw [Addr.add_lit]; exact TRow.src hr j u hj) (fun u hu => by
      obtain ⟨j, _, rfl⟩ := List.mem_map.1 hu
      exact tcell_one g j) (by unfold maxLen; omega) (by omega) hb
    exact ⟨v', w', hrun, h2, h3⟩
end
section
variable {w : World} {o : Oper} {a : Act} {K : Act → World → Prop} {Q : Exit → Act → World → Prop}
theorem p_tcat (s x : Operand) (ho : o.op = .call { callee := .builtin .append, args := #[s, x], argTypes := #[25, 25] }) {base B m cp n c : Nat} {p A : Option Addr} {xs : List Value} {g : Nat → Ts}
    (hs : a.eval s = .slice p m cp) (hx : a.eval x = .slice A n c) (h : w.ownsRow base 33 15 (.slice p m cp) m xs) (hr : TRow w B A n g) (hb : base ≤ w.heap.size) (hlen : m + n ≤ 1000)
    (hK : ∀ v w', w'.ownsRow base 33 15 v (m + n) (xs ++ tcells g n) → w.grownBy w' (Value.slice p m cp).ownBlock → K (a.put o.dst v) w') : o.wp Tryd.prog a w K Q := by
  obtain ⟨v, w', hrun, h1, h2⟩ := run_tcat (c := c) o.type h hr hb hlen
  unfold Oper.wp execOp
  simp only [ho, resolve, invoke, builtin, Sem.run_bind, Sem.run_pure, Result.andThen_ok, List.map_toArray, List.map_cons, List.map_nil, hs, hx, hrun]
  exact hK v w' h1 h2
end
theorem all_cat (ph ep : Int) (g f : Nat → Ts) (n m : Nat) (a b c : Ls.Sl) (ha : a.n = n) (hb : b.n = m) (hc : c.n = n + m) : allB ph ep ⟨c, cat g n f⟩ = (allB ph ep ⟨a, g⟩ && allB ph ep ⟨b, f⟩) := by
  refine eq_b ?_
  rw [Bool.and_eq_true, all_iff, all_iff, all_iff]
  constructor
  · intro h
    refine ⟨fun i hi => ?_, fun i hi => ?_⟩
    · have hi : i < n := by rw [← ha]; exact hi
      have : openB ph ep (cat g n f i) = false := h i (show i < c.n by omega)
      rw [show cat g n f i = g i from if_pos hi] at this
      exact this
    · have hi : i < m := by rw [← hb]; exact hi
      have : openB ph ep (cat g n f (n + i)) = false := h (n + i) (show n + i < c.n by omega)
      rw [show cat g n f (n + i) = f (n + i - n) from if_neg (by omega), Nat.add_sub_cancel_left] at this
      exact this
  · rintro ⟨h1, h2⟩ i hi
    have hi : i < c.n := hi
    show openB ph ep (cat g n f i) = false
    unfold cat
    split
    · next h => exact h1 i (show i < a.n by omega)
    · next h => exact h2 (i - n) (show i - n < b.n by omega)
end Go.Proofs.YtgmkomnoiffapaaDoor.Ha
end
section
namespace Go.Proofs.YtgmkomnoiffapaaDoor.Ha
open Go.Proofs.YtgmkomnoiffapaaDoor
open Go.RowKit
set_option maxRecDepth 100000

/-- Slots within the frame, no two alike. -/
def fitG (ops : Array Oper) (n : Nat) : Bool := (List.range ops.size).all fun i => ((ops[i]?).map fun o => (match o.dst with
  | none => true
  | some s => decide (s < n) && (List.range i).all fun j => ((ops[j]?).map fun q => !(q.dst == some s)).getD true)).getD true
theorem fit_g {ops : Array Oper} {n i : Nat} {o : Oper} {s : Nat} (h : fitG ops n = true) (ho : ops[i]? = some o) (hs : o.dst = some s) : s < n ∧ ∀ j q, j < i → ops[j]? = some q → ¬ q.dst = some s := by
  have hi : i < ops.size := (Array.getElem?_eq_some_iff.1 ho).1
  have h2 := List.all_eq_true.1 h i (List.mem_range.2 hi)
  rw [ho] at h2
  simp only [Option.map_some, Option.getD_some] at h2
  rw [hs] at h2
  simp only [Bool.and_eq_true, decide_eq_true_eq] at h2
  refine ⟨h2.1, fun j q hj hq hd => ?_⟩
  have h3 := List.all_eq_true.1 h2.2 j (List.mem_range.2 hj)
  rw [hq] at h3
  simp [hd] at h3
/-- No other one has this slot. -/
theorem fit_ne {ops : Array Oper} {n i j : Nat} {o q : Oper} {s : Nat} (h : fitG ops n = true) (ho : ops[i]? = some o) (hs : o.dst = some s) (hq : ops[j]? = some q) (hd : q.dst = some s) : j = i := by
  rcases Nat.lt_trichotomy j i with hlt | e | hlt
  · exact absurd hd ((fit_g h ho hs).2 j q hlt hq)
  · exact e
  · exact absurd hs ((fit_g h hq hd).2 i o hlt ho)
open Go.Proofs.YtgmkomnoiffapaaDoor.Mu (Pl)
theorem pl_put {ops : Array Oper} {a0 a : Act} {val val' : Nat → Value} {l : Nat → Bool} {i : Nat} {o : Oper} {v : Value} (hf : fitG ops a0.tmps.size = true) (h : Pl ops a0 val l a) (ho : ops[i]? = some o) (hv : ∀ j, l j = true → val' j = val j) (hl : l i = false) (he : val' i = v) : Pl ops a0 val' (Ls.upd l i true) (a.put o.dst v) := by
  cases hd : o.dst with
  | none =>
    refine ⟨h.sz, h.df, h.out, fun j q s hq hj hs => ?_⟩
    by_cases e : j = i
    · subst e
      rw [ho] at hq
      cases hq
      rw [hd] at hs
      cases hs
    · rw [Ls.upd_other _ _ e] at hj
      rw [hv j hj]
      exact h.got j q s hq hj hs
  | some s =>
    have h1 := fit_g hf ho hd
    refine ⟨by simp [Act.put, h.sz], h.df, fun j hj => ?_, fun j q s' hq hj hs => ?_⟩
    · have hne : ¬ s = j := fun e => hj i o ho (by rw [hd, e])
      rw [← h.out j hj]
      simp [Act.put, Array.getElem?_setIfInBounds_ne hne]
    · by_cases e : j = i
      · subst e
        rw [ho] at hq
        cases hq
        rw [hd] at hs
        cases hs
        have : s < a.tmps.size := by rw [h.sz]; exact h1.1
        simp [Act.put, this, he]
      · rw [Ls.upd_other _ _ e] at hj
        have hne : ¬ s = s' := fun e' => e (fit_ne hf ho hd hq (by rw [hs, e']))
        rw [hv j hj, ← h.got j q s' hq hj hs]
        simp [Act.put, Array.getElem?_setIfInBounds_ne hne]
/-- What is carried out, one by one. -/
def putD (val : Nat → Value) : List (Option Tmp) → Nat → Act → Act
  | [], _, a => a
  | d :: ds, k, a => putD val ds (k + 1) (a.put d (val k))
section
variable {val : Nat → Value}
theorem put_size (a : Act) (d : Option Tmp) (v : Value) : (a.put d v).tmps.size = a.tmps.size := by cases d <;> simp [Act.put]
theorem putD_out (j : Nat) : ∀ (ds : List (Option Tmp)) (k : Nat) (a : Act), (∀ i : Nat, ¬ ds[i]? = some (some j)) → (putD val ds k a).tmps[j]? = a.tmps[j]?
  | [], _, _, _ => rfl
  | d :: ds, k, a, h => by
    have e : (putD val ds (k + 1) (a.put d (val k))).tmps[j]? = _ := putD_out j ds (k + 1) _ fun i hi => h (i + 1) hi
    show (putD val ds (k + 1) _).tmps[j]? = _
    rw [e]
    cases hd : d with
    | none => rfl
    | some s => exact Sh.put_ne fun e' => h 0 (by rw [hd, e']; rfl)
theorem putD_at (j : Nat) : ∀ (ds : List (Option Tmp)) (k i : Nat) (a : Act), ds[i]? = some (some j) → (∀ i' : Nat, ds[i']? = some (some j) → i' = i) → j < a.tmps.size → (putD val ds k a).tmps[j]? = some (val (k + i))
  | [], _, i, _, h, _, _ => by simp at h
  | d :: ds, k, 0, a, h, hu, hj => by
    have e : (putD val ds (k + 1) (a.put d (val k))).tmps[j]? = _ := putD_out j ds (k + 1) _ fun i hi => by
      have := hu (i + 1) hi
      omega
    show (putD val ds (k + 1) _).tmps[j]? = _
    have hd : d = some j := by simpa using h
    rw [e, Nat.add_zero, hd]
    exact Sh.put_at hj
  | d :: ds, k, i + 1, a, h, hu, hj => by
    have e := putD_at j ds (k + 1) i (a.put d (val k)) h (fun i' hi' => by have := hu (i' + 1) hi'; omega) (by rw [put_size]; exact hj)
    show (putD val ds (k + 1) _).tmps[j]? = _
    rw [e, show k + 1 + i = k + (i + 1) by omega]
theorem putD_df : ∀ (ds : List (Option Tmp)) (k : Nat) (a : Act), (putD val ds k a).defers = a.defers
  | [], _, _ => rfl
  | d :: ds, k, a => by
    show (putD val ds (k + 1) _).defers = _
    rw [putD_df ds (k + 1)]
    cases d <;> rfl
end
/-- The frame behind a region. -/
theorem pl_full {ops : Array Oper} {a0 a : Act} {val : Nat → Value} {l : Nat → Bool} (h : Pl ops a0 val l a) (hf : fitG ops a0.tmps.size = true) (hall : ∀ i, i < ops.size → l i = true) (ds : List (Option Tmp)) (hd : ops.toList.map (·.dst) = ds) : a = putD val ds 0 a0 := by
  have hg : ∀ (i : Nat) (d : Option Tmp), ds[i]? = some d ↔ ∃ o : Oper, ops[i]? = some o ∧ o.dst = d := fun i d => by
    rw [← hd, List.getElem?_map, Array.getElem?_toList]
    simp [Option.map_eq_some_iff]
  refine Sh.act_ext (h.df.trans (putD_df _ _ _).symm) fun j => ?_
  by_cases hj : ∃ i : Nat, ds[i]? = some (some j)
  · obtain ⟨i, hi⟩ := hj
    obtain ⟨o, ho, hs⟩ := (hg i _).1 hi
    have hlt := (fit_g hf ho hs).1
    rw [putD_at j ds 0 i a0 hi (fun i' hi' => by
      obtain ⟨q, hq, hqs⟩ := (hg i' _).1 hi'
      exact fit_ne hf ho hs hq hqs) hlt, Nat.zero_add]
    exact h.got i o j ho (hall i (Array.getElem?_eq_some_iff.1 ho).1) hs
  · rw [putD_out j ds 0 a0 fun i hi => hj ⟨i, hi⟩]
    exact h.out j fun i o ho hs => hj ⟨i, (hg i _).2 ⟨o, ho, hs⟩⟩
section
variable {P : Program} {ops : Array Oper} {Q : Exit → Act → World → Prop}
end
end Go.Proofs.YtgmkomnoiffapaaDoor.Ha
end
section
namespace Go.Proofs.YtgmkomnoiffapaaDoor.Ha
open Go.Proofs.YtgmkomnoiffapaaDoor
open Go.RowKit
open Go.Proofs.YtgmkomnoiffapaaDoor.Mu (Pl)
set_option maxRecDepth 100000

/-- What is not carried out yet has left its slot alone. -/
def Kept (ops : Array Oper) (a0 : Act) (l : Nat → Bool) (a : Act) : Prop := ∀ (i : Nat) (o : Oper) (s : Nat), ops[i]? = some o → l i = false → o.dst = some s → a.tmps[s]? = a0.tmps[s]?
theorem kept_put {ops : Array Oper} {a0 a : Act} {l : Nat → Bool} {i : Nat} {o : Oper} {v : Value} (hf : fitG ops a0.tmps.size = true) (h : Kept ops a0 l a) (ho : ops[i]? = some o) : Kept ops a0 (Ls.upd l i true) (a.put o.dst v) := by
  intro j q s hq hj hs
  have e : ¬ j = i := fun e => by
    subst e
    rw [Ls.upd_same] at hj
    cases hj
  rw [Ls.upd_other _ _ e] at hj
  rw [← h j q s hq hj hs]
  cases hd : o.dst with
  | none => rfl
  | some s' => exact Sh.put_ne fun e' => e (fit_ne hf ho hd hq (by rw [hs, e']))
/-- What is carried out stands behind all that it is to stand behind. -/
def Cld (ops : Array Oper) (l : Nat → Bool) : Prop := ∀ (i : Nat) (o : Oper), ops[i]? = some o → l i = true → ∀ e ∈ o.after, Region.binds .any e = true → l e.on = true
theorem cld_put {ops : Array Oper} {l : Nat → Bool} {i : Nat} {o : Oper} (h : Cld ops l) (ho : ops[i]? = some o) (ha : ∀ e ∈ o.after, Region.binds .any e = true → l e.on = true) : Cld ops (Ls.upd l i true) := by
  have up : ∀ j, l j = true → Ls.upd l i true j = true := fun j hj => by unfold Ls.upd; split; rfl; exact hj
  intro j q hq hj e he hb
  by_cases e' : j = i
  · subst e'
    rw [ho] at hq
    cases hq
    exact up _ (ha e he hb)
  · rw [Ls.upd_other _ _ e'] at hj
    exact up _ (h j q hq hj e he hb)
section
variable {P : Program} {ops : Array Oper} {Q : Exit → Act → World → Prop}
theorem region_planK {X : Type} {id : Nat} {a : Act} {w : World} (hm : P.follows .mixedOrders = true) (hb : backAny ops = true) (hf : fitG ops a.tmps.size = true) (val : X → Nat → Value) (skip : Nat → Bool) (hz : ∀ x i, skip i = true → val x i = undef) (I : X → (Nat → Bool) → World → Prop) (x0 : X) (hstart : I x0 (fun _ => false) w.drew)
    (hw : ∀ (i : Nat) (o : Oper) (l : Nat → Bool) (a' : Act) (x : X), ops[i]? = some o → Pl ops a (val x) l a' → (∀ e ∈ o.after, Region.binds .any e = true → l e.on = true) → Region.wanted o (yielded ops a'.tmps) = !skip i)
    (hskip : ∀ (i : Nat) (l : Nat → Bool) (x : X) (W : World), skip i = true → I x l W → I x (Ls.upd l i true) W)
    (hstep : ∀ (i : Nat) (o : Oper) (l : Nat → Bool) (a' : Act) (x : X) (W : World), ops[i]? = some o → Pl ops a (val x) l a' → Kept ops a l a' → Cld ops l → I x l W → l i = false → skip i = false → (∀ e ∈ o.after, Region.binds .any e = true → l e.on = true) → ∀ K : Act → World → Prop,
      (∀ (x' : X) (W' : World), (∀ j, l j = true → val x' j = val x j) → I x' (Ls.upd l i true) W' → K (a'.put o.dst (val x' i)) W') → o.wp P a' W K Q)
    (hdone : ∀ (l : Nat → Bool) (a' : Act) (x : X) (W : World), Pl ops a (val x) l a' → I x l W → (∀ i, i < ops.size → l i = true) → Q .normal a' W) : (Code.region id ops true).wp P Q a w := by
  refine wp_region_from hm (fun a0 l a' W => a0 = a ∧ (Kept ops a l a' ∧ Cld ops l) ∧ ∃ x, Pl ops a (val x) l a' ∧ I x l W) (dag_any hb) ⟨rfl, ⟨fun _ _ _ _ _ _ => rfl, fun _ _ _ h => (by cases h)⟩, x0, ⟨rfl, rfl, fun _ _ => rfl, fun _ _ _ _ h => (by cases h)⟩, hstart⟩ ?_ ?_
  · rintro i o l a' W ho ⟨_, ⟨hk', hcd⟩, x, hP, hI⟩ hl haft K hK
    refine wpOp_of ho ?_
    have hg := hw i o l a' x ho hP haft
    cases hk : skip i with
    | true =>
      rw [hk] at hg
      rw [if_neg (show ¬ Region.wanted o (yielded ops a'.tmps) = true by rw [hg]; decide)]
      exact hK _ _ ⟨rfl, ⟨kept_put hf hk' ho, cld_put hcd ho haft⟩, x, pl_put hf hP ho (fun _ _ => rfl) hl (hz x i hk), hskip i l x W hk hI⟩
    | false =>
      rw [hk] at hg
      rw [if_pos (show Region.wanted o (yielded ops a'.tmps) = true from hg)]
      exact hstep i o l a' x W ho hP hk' hcd hI hl hk haft K fun x' W' hv hI' => hK _ _ ⟨rfl, ⟨kept_put hf hk' ho, cld_put hcd ho haft⟩, x', pl_put hf hP ho hv hl rfl, hI'⟩
  · rintro l a' W ⟨_, _, x, hP, hI⟩ hall
    exact hdone l a' x W hP hI hall
end
end Go.Proofs.YtgmkomnoiffapaaDoor.Ha
end
section
namespace Go.Proofs.YtgmkomnoiffapaaDoor.Ha
open Go.Proofs.YtgmkomnoiffapaaDoor Go.Proofs.YtgmkomnoiffapaaDoor.Rt
open Go.RowKit
open Go.Proofs.YtgmkomnoiffapaaDoor.Mu (kv)
set_option maxRecDepth 100000

theorem TRow.cel {w : World} {B n i b off : Nat} {a : Option Addr} {g : Nat → Ts} (h : TRow w B a n g) (ha : a = some ⟨b, off, none⟩) (hi : i < n) {v : Value} (hv : (tv (g i))[0]? = some v) : w.cell? ⟨b, off + i * 15, none⟩ = some v := by
  obtain ⟨b', off', e, _, hc⟩ := h (by omega)
  rw [ha] at e
  cases e
  exact hc i hi 0 v hv
structure On (w : World) (k : Sh.Ks) (T U : Tl) (q bi : Nat) (x : Nat) (l : Nat → Bool) (W : World) : Prop where
  lb : Lb w W [(w.heap.size, kv k)] [] [U, T]
  row : l bi = true → TRow W W.heap.size (some ⟨x, 0, none⟩) 1 (fun _ => T.g q)
section
variable {w W W' : World} {k : Sh.Ks} {T U : Tl} {q bi x : Nat} {l : Nat → Bool}
theorem on_start (h : Lb w W [(w.heap.size, kv k)] [] [U, T]) : On w k T U q bi x (fun _ => false) W := ⟨h, fun e => by cases e⟩
theorem On.pure (h : On w k T U q bi x l W) {i : Nat} (hi : ¬ i = bi) : On w k T U q bi x (Ls.upd l i true) W := ⟨h.lb, by rw [Ls.upd_other _ _ (fun e => hi e.symm)]; exact h.row⟩
theorem On.next (h : On w k T U q bi x l W) (hb : Below W.heap.size W W') : On w k T U q bi x l W' := ⟨h.lb.next hb, fun e => (h.row e).next hb⟩
theorem On.lay (h : On w k T U q bi x l W) (ty : TypeId) : On w k T U q bi W.heap.size (Ls.upd l bi true) (W.alloc (.cells #[.bool (T.g q).lv, .int .i64 ((T.g q).r 0), .int .i64 ((T.g q).r 1), .int .i64 ((T.g q).r 2), .int .i64 ((T.g q).r 3), .slice ((T.g q).u 0).a ((T.g q).u 0).n ((T.g q).u 0).c, .slice ((T.g q).u 1).a ((T.g q).u 1).n ((T.g q).u 1).c, .slice ((T.g q).u 2).a ((T.g q).u 2).n ((T.g q).u 2).c, .int .i64 (T.g q).ep, .int .i64 (T.g q).sg, .int .i64 (T.g q).rt, .slice (T.g q).o.a (T.g q).o.n (T.g q).o.c, .int .i64 (T.g q).pc, .int .i64 (T.g q).x, .int .i64 (T.g q).y] ty)) := ⟨h.lb.next ((Below.refl _ _).alloc (Nat.le_refl _) _), fun _ => one_row (Box.new W (tv (T.g q)) ty) (by rw [World.size_alloc]; omega)⟩
end
structure Ap (w3 : World) (T U : Tl) (x : Ls.Sl × Ls.Sl) (l : Nat → Bool) (W : World) : Prop where
  bel : Below w3.heap.size w3 W
  a : l 2 = true → l 4 = false → W.ownsRow w3.heap.size 33 15 (.slice x.1.a T.s.n x.1.c) T.s.n (tcells T.g T.s.n)
  bb : l 4 = true → W.ownsRow w3.heap.size 33 15 (.slice x.2.a (T.s.n + U.s.n) x.2.c) (T.s.n + U.s.n) (tcells (cat T.g T.s.n U.g) (T.s.n + U.s.n))
  c4 : l 4 = true → l 2 = true
section
variable {w3 W W' w9 : World} {T U : Tl} {x : Ls.Sl × Ls.Sl} {l : Nat → Bool} {v : Value}
theorem ap_start : Ap w3 T U x (fun _ => false) w3.drew := ⟨⟨rfl, rfl, rfl, Nat.le_refl _, fun _ _ => rfl⟩, fun e => (by cases e), fun e => (by cases e), fun e => (by cases e)⟩
theorem Ap.pure (h : Ap w3 T U x l W) {i : Nat} (hi : ¬ i = 2 ∧ ¬ i = 4) : Ap w3 T U x (Ls.upd l i true) W :=
  ⟨h.bel, by rw [Ls.upd_other _ _ (fun e => hi.1 e.symm), Ls.upd_other _ _ (fun e => hi.2 e.symm)]; exact h.a, by rw [Ls.upd_other _ _ (fun e => hi.2 e.symm)]; exact h.bb, by rw [Ls.upd_other _ _ (fun e => hi.1 e.symm), Ls.upd_other _ _ (fun e => hi.2 e.symm)]; exact h.c4⟩
theorem towns_next {base n : Nat} {xs : List Value} (h : W.ownsRow base 33 15 v n xs) (hb : Below W.heap.size W W') : W'.ownsRow base 33 15 v n xs := Ls.World.ownsRow.same h fun g _ hg => hb.block g hg
theorem Ap.next (h : Ap w3 T U x l W) (hb : Below W.heap.size W W') : Ap w3 T U x l W' := ⟨h.bel.trans (hb.mono h.bel.size), fun e e' => towns_next (h.a e e') hb, fun e => towns_next (h.bb e) hb, h.c4⟩
theorem Ap.one (h : Ap w3 T U x l W) (ho : w9.ownsRow w3.heap.size 33 15 v (0 + T.s.n) ([] ++ tcells T.g T.s.n)) (hg : W.grownBy w9 (Value.slice none 0 0).ownBlock) :
    ∃ u : Ls.Sl, v = .slice u.a T.s.n u.c ∧ Below w3.heap.size w3 w9 ∧ (l 2 = false → Ap w3 T U ⟨u, x.2⟩ (Ls.upd l 2 true) w9) := by
  rw [Nat.zero_add, List.nil_append] at ho
  obtain ⟨u, rfl, _⟩ := trow_own ho
  have hb : Below w3.heap.size w3 w9 := h.bel.grown hg h.bel.size (by intro j hj; cases hj)
  refine ⟨u, rfl, hb, fun hl => ?_⟩
  have e4 : l 4 = false := by
    cases e : l 4 with
    | false => rfl
    | true => rw [h.c4 e] at hl; cases hl
  exact ⟨hb, fun _ _ => ho, fun e => (by rw [Ls.upd_other _ _ (by decide), e4] at e; cases e), fun e => (by rw [Ls.upd_other _ _ (by decide), e4] at e; cases e)⟩
theorem Ap.two (h : Ap w3 T U x l W) (h2 : l 2 = true) (hl : l 4 = false) (ho : w9.ownsRow w3.heap.size 33 15 v (T.s.n + U.s.n) (tcells T.g T.s.n ++ tcells U.g U.s.n)) (hg : W.grownBy w9 (Value.slice x.1.a T.s.n x.1.c).ownBlock) :
    ∃ u : Ls.Sl, v = .slice u.a (T.s.n + U.s.n) u.c ∧ Ap w3 T U ⟨x.1, u⟩ (Ls.upd l 4 true) w9 := by
  rw [tcells_cat] at ho
  obtain ⟨u, rfl, _⟩ := trow_own ho
  have hb : Below w3.heap.size w3 w9 := h.bel.grown hg h.bel.size fun j hj => ((h.a h2 hl).lt j hj).1
  exact ⟨u, rfl, hb, fun _ e => (by rw [Ls.upd_same] at e; cases e), fun _ => ho, fun _ => by rw [Ls.upd_other _ _ (by decide)]; exact h2⟩
theorem Ap.b (h : Ap w3 T U x l W) (h4 : l 4 = true) : TRow W W.heap.size x.2.a (T.s.n + U.s.n) (cat T.g T.s.n U.g) := by
  obtain ⟨u, e, _, hr, _⟩ := trow_own (h.bb h4)
  simp only [Value.slice.injEq, true_and] at e
  rw [e.1]
  exact hr
end
end Go.Proofs.YtgmkomnoiffapaaDoor.Ha
end
section
namespace Go.Proofs.YtgmkomnoiffapaaDoor.Rt
open Go.Proofs.YtgmkomnoiffapaaDoor
open Go.ChangeShapes Go.WideShapes Go.ChangeAt Go.RowKit Go.Deep
set_option maxRecDepth 100000

section
variable {H : Type} {enc : TypeId × Value → H} {w : World} {base : Nat} {spare : Nat → Bool} {held : Bool}
theorem ints_in {fuel : Nat} {cs : List Value} {x : DataW H × List MemPlace} (h : DataW.trod enc Tryd.prog w base spare held fuel 22 cs = some x) :
    ∃ (s : Ls.Sl) (zs : List Int), cs = [.slice s.a s.n s.c] ∧ Row w w.heap.size s.a s.n zs ∧ s.n ≤ s.c ∧ s.c ≤ maxLen := by
  rcases open_ints Tryd.underlying22 Tryd.underlying3 (by kernel_rfl) h with ⟨rfl, rfl⟩ | ⟨y, len, cap, zs, rfl, _, hl, hm, hz, rfl, hcell, hwz⟩
  · exact ⟨⟨none, 0, 0⟩, [], rfl, Row.none_ _ _, Nat.le_refl _, by show (0 : Nat) ≤ maxLen; unfold maxLen; omega⟩
  · have hz' : len ≤ zs.length := by rw [hz]; split <;> omega
    refine ⟨⟨some y, len, cap⟩, zs.take len, rfl, ⟨by simp; omega, fun hn => ?_⟩, hl, hm⟩
    have hn' : 0 < len := hn
    obtain ⟨b, off, spot⟩ := y
    have h0 := hcell 0 (by omega)
    have hs : spot = none := by simpa [Addr.add] using World.cell?_spot h0
    subst hs
    refine ⟨b, off, rfl, ?_, fun i hi => ?_⟩
    · have := World.block_lt_of_cell? w _ h0
      simpa [Addr.add] using this
    · have hi' : i < len := hi
      have := hcell i (by omega)
      rw [Addr.add_lit] at this
      rw [this]
      simp [List.getD, hi']
def tri {α : Type} (a b c : α) : Nat → α
  | 0 => a
  | 1 => b
  | _ => c
def four {α : Type} (a b c d : α) : Nat → α
  | 0 => a
  | 1 => b
  | 2 => c
  | _ => d
theorem lists_in {fuel : Nat} {c0 c1 c2 : Value} {x : DataW H × List MemPlace} (h : DataW.trod enc Tryd.prog w base spare held fuel 30 [c0, c1, c2] = some x) :
    ∃ (u : Nat → Ls.Sl) (f : Nat → List Int), c0 = .slice (u 0).a (u 0).n (u 0).c ∧ c1 = .slice (u 1).a (u 1).n (u 1).c ∧ c2 = .slice (u 2).a (u 2).n (u 2).c ∧ Ls.L3 w w.heap.size u f := by
  obtain ⟨y0, y1, y2, n, rfl, h0, h1, h2⟩ := trod_array3 Tryd.underlying30 (by kernel_rfl) h
  obtain ⟨s0, z0, e0, r0⟩ := ints_in h0
  obtain ⟨s1, z1, e1, r1⟩ := ints_in h1
  obtain ⟨s2, z2, e2, r2⟩ := ints_in h2
  simp only [List.cons.injEq, and_true] at e0 e1 e2
  refine ⟨tri s0 s1 s2, tri z0 z1 z2, e0, e1, e2, fun j hj => ?_⟩
  match j, hj with
  | 0, _ => exact r0
  | 1, _ => exact r1
  | 2, _ => exact r2
theorem ops_in {fuel : Nat} {cs : List Value} {x : DataW H × List MemPlace} (h : DataW.trod enc Tryd.prog w base spare held fuel 31 cs = some x) :
    ∃ (s : Ls.Sl) (g : Nat → O4), cs = [.slice s.a s.n s.c] ∧ ORow w w.heap.size s.a s.n g ∧ s.n ≤ s.c := by
  rcases open_slice Tryd.underlying31 h with ⟨hcs, _⟩ | ⟨y, len, cap, m, k, D, Pl, hcs, _, hl, hm, hmm, _, hi⟩
  · exact ⟨⟨none, 0, 0⟩, fun _ => ⟨0, 0, 0, 0⟩, hcs, ORow.empty _ _ _ _, Nat.le_refl _⟩
  · have hm' : len ≤ m := by rw [hmm]; split <;> omega
    have ce : Tryd.prog.cellsOf 63 = 4 := by kernel_rfl
    have e1 : Tryd.prog.cellsOf 3 = 1 := by kernel_rfl
    have each : ∀ i, i < len → ∃ q : O4, w.cell? ((y.add (i * 4)).add 0) = some (.int .i64 q.k) ∧ w.cell? ((y.add (i * 4)).add 1) = some (.int .i64 q.a) ∧ w.cell? ((y.add (i * 4)).add 2) = some (.int .i64 q.b) ∧ w.cell? ((y.add (i * 4)).add 3) = some (.int .i64 q.c) := by
      intro i hlt
      obtain ⟨cs', h1, h2⟩ := hi i (by omega)
      rw [ce] at h1
      obtain ⟨_, hlen, hcell⟩ := World.cells?_some h1
      obtain ⟨xs, k', _, _, _, hxl, hg⟩ := DataW.trod_struct Tryd.underlying63 h2
      match xs, hxl, cs', hlen with
      | [y0, y1, y2, y3], _, [c0, c1, c2, c3], _ =>
        have g0 : DataW.trod enc Tryd.prog w base spare held k' 3 [c0] = some y0 := by have := hg 0 _ rfl; simpa [e1, Value.cells] using this
        have g1 : DataW.trod enc Tryd.prog w base spare held k' 3 [c1] = some y1 := by have := hg 1 _ rfl; simpa [e1, Value.cells] using this
        have g2 : DataW.trod enc Tryd.prog w base spare held k' 3 [c2] = some y2 := by have := hg 2 _ rfl; simpa [e1, Value.cells] using this
        have g3 : DataW.trod enc Tryd.prog w base spare held k' 3 [c3] = some y3 := by have := hg 3 _ rfl; simpa [e1, Value.cells] using this
        obtain ⟨n0, a0, _, _⟩ := DataW.trod_int Tryd.underlying3 g0
        obtain ⟨n1, a1, _, _⟩ := DataW.trod_int Tryd.underlying3 g1
        obtain ⟨n2, a2, _, _⟩ := DataW.trod_int Tryd.underlying3 g2
        obtain ⟨n3, a3, _, _⟩ := DataW.trod_int Tryd.underlying3 g3
        simp only [List.cons.injEq, and_true] at a0 a1 a2 a3
        subst a0 a1 a2 a3
        exact ⟨⟨n0, n1, n2, n3⟩, by simpa using hcell 0 (by decide), by simpa using hcell 1 (by decide), by simpa using hcell 2 (by decide), by simpa using hcell 3 (by decide)⟩
    haveI : Inhabited O4 := ⟨⟨0, 0, 0, 0⟩⟩
    obtain ⟨q, hq⟩ := choose_lt each
    refine ⟨⟨some y, len, cap⟩, q, hcs, fun hn => ?_, hl⟩
    obtain ⟨b, off, spot⟩ := y
    have h0 := (hq 0 hn).1
    have hs : spot = none := by simpa [Addr.add] using World.cell?_spot h0
    subst hs
    refine ⟨b, off, rfl, ?_, fun i hlt => ?_⟩
    · have := World.block_lt_of_cell? w _ h0
      simpa [Addr.add] using this
    · have := hq i hlt
      simp only [Addr.add_lit, Nat.add_zero] at this
      exact this
theorem th_in {fuel : Nat} {l : List Value} {x : DataW H × List MemPlace} (h : DataW.trod enc Tryd.prog w base spare held fuel 33 l = some x) (hl15 : l.length = 15) :
    ∃ (t : Ts) (F : Nat → List Int) (g : Nat → O4), l = tv t ∧ Th w w.heap.size t F g ∧ ∀ j, (Lit.int .i64 (t.r j)).wf = true := by
  obtain ⟨xs, k, _, hx, hl, hlen, hg⟩ := DataW.trod_struct Tryd.underlying33 h
  match l, hl15, xs, hlen with
  | [c0, c1, c2, c3, c4, c5, c6, c7, c8, c9, c10, c11, c12, c13, c14], _, [y0, y1, y2, y3, y4, y5, y6, y7, y8, y9], _ =>
    have e1 : Tryd.prog.cellsOf 3 = 1 := by kernel_rfl
    have e2 : Tryd.prog.cellsOf 4 = 1 := by kernel_rfl
    have e3 : Tryd.prog.cellsOf 31 = 1 := by kernel_rfl
    have e4 : Tryd.prog.cellsOf 28 = 4 := by kernel_rfl
    have e5 : Tryd.prog.cellsOf 30 = 3 := by kernel_rfl
    have g0 : DataW.trod enc Tryd.prog w base spare held k 4 [c0] = some y0 := by have := hg 0 _ rfl; simpa [e2, Value.cells] using this
    have g1 : DataW.trod enc Tryd.prog w base spare held k 28 [c1, c2, c3, c4] = some y1 := by have := hg 1 _ rfl; simpa [e4, Value.cells] using this
    have g2 : DataW.trod enc Tryd.prog w base spare held k 30 [c5, c6, c7] = some y2 := by have := hg 2 _ rfl; simpa [e5, Value.cells] using this
    have g3 : DataW.trod enc Tryd.prog w base spare held k 3 [c8] = some y3 := by have := hg 3 _ rfl; simpa [e1, Value.cells] using this
    have g4 : DataW.trod enc Tryd.prog w base spare held k 3 [c9] = some y4 := by have := hg 4 _ rfl; simpa [e1, Value.cells] using this
    have g5 : DataW.trod enc Tryd.prog w base spare held k 3 [c10] = some y5 := by have := hg 5 _ rfl; simpa [e1, Value.cells] using this
    have g6 : DataW.trod enc Tryd.prog w base spare held k 31 [c11] = some y6 := by have := hg 6 _ rfl; simpa [e3, Value.cells] using this
    have g7 : DataW.trod enc Tryd.prog w base spare held k 3 [c12] = some y7 := by have := hg 7 _ rfl; simpa [e1, Value.cells] using this
    have g8 : DataW.trod enc Tryd.prog w base spare held k 3 [c13] = some y8 := by have := hg 8 _ rfl; simpa [e1, Value.cells] using this
    have g9 : DataW.trod enc Tryd.prog w base spare held k 3 [c14] = some y9 := by have := hg 9 _ rfl; simpa [e1, Value.cells] using this
    obtain ⟨n0, h0, _⟩ := DataW.trod_bool Tryd.underlying4 g0
    obtain ⟨q0, q1, q2, q3, k', _, p0, p1, p2, p3⟩ := trod_array4 Tryd.underlying28 (by kernel_rfl) g1
    obtain ⟨r0, a0, _, b0⟩ := DataW.trod_int Tryd.underlying3 p0
    obtain ⟨r1, a1, _, b1⟩ := DataW.trod_int Tryd.underlying3 p1
    obtain ⟨r2, a2, _, b2⟩ := DataW.trod_int Tryd.underlying3 p2
    obtain ⟨r3, a3, _, b3⟩ := DataW.trod_int Tryd.underlying3 p3
    obtain ⟨u, F, u0, u1, u2, hu⟩ := lists_in g2
    obtain ⟨n3, h3, _, _⟩ := DataW.trod_int Tryd.underlying3 g3
    obtain ⟨n4, h4, _, _⟩ := DataW.trod_int Tryd.underlying3 g4
    obtain ⟨n5, h5, _, _⟩ := DataW.trod_int Tryd.underlying3 g5
    obtain ⟨o, g, h6, ho, hk⟩ := ops_in g6
    obtain ⟨n7, h7, _, _⟩ := DataW.trod_int Tryd.underlying3 g7
    obtain ⟨n8, h8, _, _⟩ := DataW.trod_int Tryd.underlying3 g8
    obtain ⟨n9, h9, _, _⟩ := DataW.trod_int Tryd.underlying3 g9
    simp only [List.cons.injEq, and_true] at h0 a0 a1 a2 a3 h3 h4 h5 h6 h7 h8 h9
    subst h0 a0 a1 a2 a3 u0 u1 u2 h3 h4 h5 h6 h7 h8 h9
    exact ⟨⟨n0, four r0 r1 r2 r3, u, n3, n4, n5, o, n7, n8, n9⟩, F, g, rfl, ⟨hu, ho, hk⟩, fun j => (match j with | 0 => b0 | 1 => b1 | 2 => b2 | _ + 3 => b3)⟩
end
end Go.Proofs.YtgmkomnoiffapaaDoor.Rt
end
section
namespace Go.Proofs.YtgmkomnoiffapaaDoor.Ha
open Go.Proofs.YtgmkomnoiffapaaDoor Go.Proofs.YtgmkomnoiffapaaDoor.Rt
open Go.ChangeShapes Go.WideShapes Go.ChangeAt Go.RowKit Go.Deep
set_option maxRecDepth 100000

theorem ths_of {H : Type} {enc : TypeId × Value → H} {w : World} {base b0 : Nat} {spare : Nat → Bool} {held : Bool} {v : Value} {d : DataW H} {p : List MemPlace} {r : Reach}
    (hv : Value.okWide Tryd.prog w r b0 25 v) (h : DataW.Trod enc Tryd.prog w base spare held 25 v d p) :
    ∃ (s : Ls.Sl) (g : Nat → Ts), v = .slice s.a s.n s.c ∧ TRow w w.heap.size s.a s.n g ∧ s.n ≤ s.c ∧ s.c ≤ maxLen := by
  obtain ⟨a, n, c, rfl⟩ := okWide_slice Tryd.underlying25 hv
  obtain ⟨fuel, hf⟩ := h
  rcases open_slice Tryd.underlying25 hf with ⟨hcs, _⟩ | ⟨y, len, cap, m, k, D, Pl, hcs, _, hl, hm, hmm, _, hi⟩
  · have hcs : [Value.slice a n c] = [.slice none 0 0] := hcs
    simp only [List.cons.injEq, Value.slice.injEq, and_true] at hcs
    obtain ⟨rfl, rfl, rfl⟩ := hcs
    exact ⟨⟨none, 0, 0⟩, fun _ => noT, rfl, TRow.empty _ _ _ _, Nat.le_refl _, by show (0 : Nat) ≤ maxLen; unfold maxLen; omega⟩
  · have hcs : [Value.slice a n c] = [.slice (some y) len cap] := hcs
    simp only [List.cons.injEq, Value.slice.injEq, and_true] at hcs
    obtain ⟨rfl, rfl, rfl⟩ := hcs
    have hm' : n ≤ m := by rw [hmm]; split <;> omega
    have ce : Tryd.prog.cellsOf 33 = 15 := by kernel_rfl
    have each : ∀ i, i < n → ∃ t : Ts, ∀ j v, (tv t)[j]? = some v → w.cell? ((y.add (i * 15)).add j) = some v := by
      intro i hlt
      obtain ⟨cs', h1, h2⟩ := hi i (by omega)
      rw [ce] at h1
      obtain ⟨_, hlen, hcell⟩ := World.cells?_some h1
      obtain ⟨t, F, g, e, _⟩ := th_in h2 hlen
      refine ⟨t, fun j v hj => ?_⟩
      have hj15 : j < 15 := (List.getElem?_eq_some_iff.1 hj).1
      have := hcell j hj15
      rw [this, e]
      rw [List.getElem?_eq_some_iff] at hj
      obtain ⟨_, hj⟩ := hj
      simp [← hj]
    haveI : Inhabited Ts := ⟨noT⟩
    obtain ⟨q, hq⟩ := choose_lt each
    refine ⟨⟨some y, n, c⟩, q, rfl, fun hn => ?_, hl, hm⟩
    obtain ⟨b, off, spot⟩ := y
    have h0 := hq 0 hn 0 _ rfl
    have hs : spot = none := by simpa [Addr.add] using World.cell?_spot h0
    subst hs
    refine ⟨b, off, rfl, ?_, fun i hlt j v hj => ?_⟩
    · have := World.block_lt_of_cell? w _ h0
      simpa [Addr.add] using this
    · have := hq i hlt j v hj
      simpa only [Addr.add_lit] using this
end Go.Proofs.YtgmkomnoiffapaaDoor.Ha
end
section
namespace Go.Proofs.YtgmkomnoiffapaaDoor
open Go.ChangeShapes Go.WideShapes Go.ChangeAt Go.RowKit Go.Deep
set_option maxRecDepth 100000

theorem own : ownKnob Tryd.prog.godebug = none := by kernel_rfl
theorem laidOut : laidOutB Tryd.prog = true := by kernel_rfl
def laidSizes : List (String × DataW Unit) := [("ragpicker/class.sizes", Rows.laid_ragpicker_class_sizes)]
theorem gSizes : Tryd.prog.globalNamed "ragpicker/class.sizes" = some 0 := by kernel_rfl
theorem tSizes : (Tryd.prog.globals[0]?).map (·.type) = some 118 := by kernel_rfl
theorem cInt : Tryd.prog.cellsOf 3 = 1 := by kernel_rfl
theorem cSizes : Tryd.prog.cellsOf 118 = 3 := by kernel_rfl
theorem of_laid {W : World} (h : laidMetH Tryd.prog laidSizes W) : Cl.Sz W := by
  rw [MakeChecks.laidMetH_plain _ _ _ (by kernel_rfl)] at h
  have hT : Lib.TabIs Tryd.prog W "ragpicker/class.sizes" .i64 [2, 4, 8] := Lib.tabIs_of_head gSizes tSizes Tryd.underlying118 Tryd.underlying3 cInt cSizes h
  exact ⟨hT.cell gSizes 0 (by decide), hT.cell gSizes 1 (by decide), hT.cell gSizes 2 (by decide)⟩
theorem door_met (os : Os) (args : Array Value) : laidMetH Tryd.prog laidSizes ((World.doorLaid Tryd.prog 400 os).forCall (fun _ _ => 0) ⟨#[], args, []⟩).memory :=
  laidMetH_of_parts3 (fuel := 8) (laidMet_of_run' 8 (by kernel_rfl) (by kernel_rfl)) (by kernel_rfl) (by kernel_rfl)

/-- How much a reading holds. -/
theorem bulk_one {H : Type} (d : DataW H) : 1 ≤ Rows.uptoBulk d := by
  cases d <;> first | (simp only [Rows.uptoBulk]; omega) | (rename_i l; cases l <;> simp [Rows.uptoBulk])
theorem bulk_long {H : Type} : ∀ l : List (DataW H), l.length ≤ Rows.uptoBulkAll l
  | [] => by simp [Rows.uptoBulkAll]
  | x :: r => by
    have h1 := bulk_one x
    have h2 := bulk_long r
    simp only [Rows.uptoBulkAll, List.length_cons]
    omega
theorem bulk_slice {H : Type} (l r : List (DataW H)) : l.length ≤ Rows.uptoBulk (.slice l r) := by
  have := bulk_long l
  simp only [Rows.uptoBulk]
  omega
theorem wf_bounds {n : Int} (h : (Lit.int .i64 n).wf = true) : -9223372036854775808 ≤ n ∧ n ≤ 9223372036854775807 := by
  simpa [Lit.wf, IntKind.min, IntKind.max, IntKind.signed, IntKind.bits] using h
def Fit64 (zs : List Int) : Prop := ∀ i, -9223372036854775808 ≤ zs.getD i 0 ∧ zs.getD i 0 ≤ 9223372036854775807
/-- A slice of numbers that comes in. -/
theorem ints_in {H : Type} {enc : TypeId × Value → H} {w : World} {base : Nat} {spare : Nat → Bool} {held : Bool} {fuel : Nat} {cs : List Value} {x : DataW H × List MemPlace}
    (h : DataW.trod enc Tryd.prog w base spare held fuel 22 cs = some x) :
    ∃ (s : Ls.Sl) (zs : List Int), cs = [.slice s.a s.n s.c] ∧ (Row w w.heap.size s.a s.n zs ∧ s.n ≤ s.c ∧ s.c ≤ maxLen) ∧ s.n ≤ Rows.uptoBulk x.1 ∧ Fit64 zs := by
  rcases open_ints Tryd.underlying22 Tryd.underlying3 (by kernel_rfl) h with ⟨rfl, rfl⟩ | ⟨y, len, cap, zs, rfl, _, hl, hm, hz, rfl, hcell, hwz⟩
  · exact ⟨⟨none, 0, 0⟩, [], rfl, ⟨Row.none_ _ _, Nat.le_refl _, by show (0 : Nat) ≤ maxLen; unfold maxLen; omega⟩, Nat.zero_le _, fun i => by simp⟩
  · have hz' : len ≤ zs.length := by rw [hz]; split <;> omega
    refine ⟨⟨some y, len, cap⟩, zs.take len, rfl, ⟨⟨by simp; omega, fun hn => ?_⟩, hl, hm⟩, ?_, fun i => ?_⟩
    · have hn' : 0 < len := hn
      obtain ⟨b, off, spot⟩ := y
      have h0 := hcell 0 (by omega)
      have hs : spot = none := by simpa [Addr.add] using World.cell?_spot h0
      subst hs
      refine ⟨b, off, rfl, ?_, fun i hi => ?_⟩
      · have := World.block_lt_of_cell? w _ h0
        simpa [Addr.add] using this
      · have hi' : i < len := hi
        have := hcell i (by omega)
        rw [Addr.add_lit] at this
        rw [this]
        simp [List.getD, hi']
    · have := bulk_slice (H := H) (lits .i64 (zs.take len)) (lits .i64 (zs.drop len))
      have e : (lits (H := H) .i64 (zs.take len)).length = len := by simp [lits]; omega
      show len ≤ Rows.uptoBulk (DataW.slice (lits .i64 (zs.take len)) (lits .i64 (zs.drop len)))
      rw [e] at this
      exact this
    · by_cases hi : i < len
      · have hi2 : i < zs.length := by omega
        have h1 := hwz (zs.getD i 0) (getD_mem hi2)
        rw [show (zs.take len).getD i 0 = zs.getD i 0 by simp [List.getD, hi]]
        exact wf_bounds h1
      · rw [show (zs.take len).getD i 0 = 0 by simp [List.getD, List.getElem?_eq_none (show (zs.take len).length ≤ i by simp; omega)]]
        omega
/-- Three of them. -/
def tri {α : Type} (a b c : α) : Nat → α
  | 0 => a
  | 1 => b
  | _ => c
theorem lists_in {H : Type} {enc : TypeId × Value → H} {w : World} {base : Nat} {spare : Nat → Bool} {held : Bool} {fuel : Nat} {c0 c1 c2 : Value} {x : DataW H × List MemPlace}
    (h : DataW.trod enc Tryd.prog w base spare held fuel 30 [c0, c1, c2] = some x) :
    ∃ (u : Nat → Ls.Sl) (f : Nat → List Int), [c0, c1, c2] = [.slice (u 0).a (u 0).n (u 0).c, .slice (u 1).a (u 1).n (u 1).c, .slice (u 2).a (u 2).n (u 2).c] ∧ Ls.L3 w w.heap.size u f ∧ (u 0).n + (u 1).n + (u 2).n ≤ Rows.uptoBulk x.1 := by
  obtain ⟨y0, y1, y2, n, rfl, h0, h1, h2⟩ := trod_array3 Tryd.underlying30 (by kernel_rfl) h
  obtain ⟨s0, z0, e0, r0, b0, _⟩ := ints_in h0
  obtain ⟨s1, z1, e1, r1, b1, _⟩ := ints_in h1
  obtain ⟨s2, z2, e2, r2, b2, _⟩ := ints_in h2
  simp only [List.cons.injEq, and_true] at e0 e1 e2
  refine ⟨tri s0 s1 s2, tri z0 z1 z2, by rw [e0, e1, e2]; rfl, fun j hj => ?_, ?_⟩
  · match j, hj with
    | 0, _ => exact r0
    | 1, _ => exact r1
    | 2, _ => exact r2
  · simp only [Rows.uptoBulk, Rows.uptoBulkAll, tri]
    omega
end Go.Proofs.YtgmkomnoiffapaaDoor
end
section
namespace Go.Proofs.YtgmkomnoiffapaaDoor
open Go.ChangeShapes Go.WideShapes Go.ChangeAt Go.RowKit Go.Deep
set_option maxRecDepth 100000

end Go.Proofs.YtgmkomnoiffapaaDoor
end
section
namespace Go.Proofs.YtgmkomnoiffapaaDoor
open Go.ChangeShapes Go.WideShapes Go.ChangeAt Go.RowKit Go.Deep

section
variable {H : Type} {enc : TypeId × Value → H} {P : Program} {w : World} {base : Nat} {spare : Nat → Bool} {held : Bool}

end
end Go.Proofs.YtgmkomnoiffapaaDoor
end
section
namespace Go.Proofs.YtgmkomnoiffapaaDoor
open Go.ChangeShapes Go.WideShapes Go.ChangeAt Go.RowKit Go.Deep
set_option maxRecDepth 100000

end Go.Proofs.YtgmkomnoiffapaaDoor
end
section
namespace Go.Proofs.YtgmkomnoiffapaaDoor.Sh
open Go.Proofs.YtgmkomnoiffapaaDoor
open Go.ChangeShapes Go.WideShapes Go.ChangeAt Go.RowKit Go.Deep
set_option maxRecDepth 100000

theorem col_of {H : Type} {enc : TypeId × Value → H} {w : World} {base b0 : Nat} {spare : Nat → Bool} {held : Bool} {v : Value} {d : DataW H} {p : List MemPlace} {r : Reach}
    (hv : Value.okWide Tryd.prog w r b0 24 v) (h : DataW.Trod enc Tryd.prog w base spare held 24 v d p) :
    ∃ (k : Ks) (xs : List Int), v = (.agg #[.int .i64 k.ph, .int .i64 k.ep, .bool k.mj, .slice k.wk.a k.wk.n k.wk.c, .bool k.ov, .int .i64 k.pa, .int .i64 k.pf, .int .i64 k.ps, .int .i64 k.pc, .bool k.me]) ∧ WRow w w.heap.size k xs ∧ k.wk.n ≤ k.wk.c ∧ k.wk.c ≤ maxLen ∧ (Lit.int .i64 k.ep).wf = true := by
  obtain ⟨⟨l⟩, rfl, hsz⟩ := okWide_struct Tryd.underlying24 hv
  obtain ⟨fuel, hf⟩ := h
  obtain ⟨xs, k, _, hx, hl, hlen, hg⟩ := DataW.trod_struct Tryd.underlying24 hf
  have hl10 : l.length = 10 := hsz.trans (by kernel_rfl)
  match l, hl10, xs, hlen with
  | [c0, c1, c2, c3, c4, c5, c6, c7, c8, c9], _, [y0, y1, y2, y3, y4, y5, y6, y7, y8, y9], _ =>
    have e1 : Tryd.prog.cellsOf 3 = 1 := by kernel_rfl
    have e2 : Tryd.prog.cellsOf 4 = 1 := by kernel_rfl
    have e3 : Tryd.prog.cellsOf 22 = 1 := by kernel_rfl
    have g0 : DataW.trod enc Tryd.prog w base spare held k 3 [c0] = some y0 := by have := hg 0 _ rfl; simpa [e1, Value.cells] using this
    have g1 : DataW.trod enc Tryd.prog w base spare held k 3 [c1] = some y1 := by have := hg 1 _ rfl; simpa [e1, Value.cells] using this
    have g2 : DataW.trod enc Tryd.prog w base spare held k 4 [c2] = some y2 := by have := hg 2 _ rfl; simpa [e2, Value.cells] using this
    have g3 : DataW.trod enc Tryd.prog w base spare held k 22 [c3] = some y3 := by have := hg 3 _ rfl; simpa [e3, Value.cells] using this
    have g4 : DataW.trod enc Tryd.prog w base spare held k 4 [c4] = some y4 := by have := hg 4 _ rfl; simpa [e2, Value.cells] using this
    have g5 : DataW.trod enc Tryd.prog w base spare held k 3 [c5] = some y5 := by have := hg 5 _ rfl; simpa [e1, Value.cells] using this
    have g6 : DataW.trod enc Tryd.prog w base spare held k 3 [c6] = some y6 := by have := hg 6 _ rfl; simpa [e1, Value.cells] using this
    have g7 : DataW.trod enc Tryd.prog w base spare held k 3 [c7] = some y7 := by have := hg 7 _ rfl; simpa [e1, Value.cells] using this
    have g8 : DataW.trod enc Tryd.prog w base spare held k 3 [c8] = some y8 := by have := hg 8 _ rfl; simpa [e1, Value.cells] using this
    have g9 : DataW.trod enc Tryd.prog w base spare held k 4 [c9] = some y9 := by have := hg 9 _ rfl; simpa [e2, Value.cells] using this
    obtain ⟨n0, h0, _, _⟩ := DataW.trod_int Tryd.underlying3 g0
    obtain ⟨n1, h1, _, w1⟩ := DataW.trod_int Tryd.underlying3 g1
    obtain ⟨n2, h2, _⟩ := DataW.trod_bool Tryd.underlying4 g2
    obtain ⟨s3, zs, h3, r3, _, _⟩ := ints_in g3
    obtain ⟨n4, h4, _⟩ := DataW.trod_bool Tryd.underlying4 g4
    obtain ⟨n5, h5, _, _⟩ := DataW.trod_int Tryd.underlying3 g5
    obtain ⟨n6, h6, _, _⟩ := DataW.trod_int Tryd.underlying3 g6
    obtain ⟨n7, h7, _, _⟩ := DataW.trod_int Tryd.underlying3 g7
    obtain ⟨n8, h8, _, _⟩ := DataW.trod_int Tryd.underlying3 g8
    obtain ⟨n9, h9, _⟩ := DataW.trod_bool Tryd.underlying4 g9
    simp only [List.cons.injEq, and_true] at h0 h1 h2 h3 h4 h5 h6 h7 h8 h9
    subst h0 h1 h2 h3 h4 h5 h6 h7 h8 h9
    exact ⟨⟨n0, n1, n2, s3, n4, n5, n6, n7, n8, n9⟩, zs, rfl, r3.1, r3.2.1, r3.2.2, w1⟩
end Go.Proofs.YtgmkomnoiffapaaDoor.Sh
end
