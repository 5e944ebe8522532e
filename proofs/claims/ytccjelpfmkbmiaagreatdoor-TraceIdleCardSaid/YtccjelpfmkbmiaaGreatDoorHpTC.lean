/-
  Merged texts: ClStarts, ClFind, ClCalls, ClPlain, ClApp, ClRefPlain, ClRef, HpFree, HpGlue, ClRefAll.
-/
import Derived.Test.YtccjelpfmkbmiaaGreatDoorHpTB
import Derived.Test.YtccjelpfmkbmiaaGreatDoorHpTA
import Derived.Deep.AppendLies
import Derived.RangeFuncBox
import Derived.Deep.Upon
import Derived.Deep.RegionHeld3
section
namespace Go.Proofs.YtccjelpfmkbmiaaGreatDoor.Cl
open Go.Proofs.YtccjelpfmkbmiaaGreatDoor
set_option maxRecDepth 100000
open Go.RowKit Go.Shelf
attribute [local go_sem] Oper.semAt_some

theorem info_int1 : (Tryz.prog.info? 3).map (fun i => (i.zero, i.size, i.bytes)) = some (some (.int .i64 0), 1, 8) := by kernel_rfl

/-- 'append' in a fenced walk, and where the new slice lies. -/
theorem listIn_append_lies {F : Fence} {n : Nat} {P : Program} (w : World) {ops : Array Oper} {rest : List Oper} {o : Oper} {a : Act} {Q : Exit → Act → World → Prop}
    (hg : o.guard = none) (s x : Operand) (t : TypeId) (hop : o.op = Op.call { callee := Callee.builtin Builtin.append, args := #[s, x], argTypes := #[t, t] })
    (base : Nat) (e : TypeId) (i : TypeInfo) (z : Value) (size bytes : Nat) (h1 : P.underlying t = some (.slice e)) (h2 : P.info? e = some i) (h3 : i.zero = some z) (h4 : i.size = size) (h5 : i.bytes = bytes) (h6 : z.cells.size = size) (h7 : 0 < size)
    (v : Value) (k : Nat) (xs : List Value) (hs : a.eval s = v) (hown : w.ownsRow base e size v k xs) (ad : Addr) (m c : Nat) (news : List Value) (hx : a.eval x = .slice (some ad) m c) (hn : news.length = m * size)
    (hc : ∀ j u, news[j]? = some u → w.cell? (ad.add j) = some u) (h1c : ∀ u ∈ news, u.oneCell' = true) (hm : 0 < m) (b1 : k + m ≤ maxLen) (b2 : (k + m) * bytes ≤ 140737488355328) (b3 : base ≤ w.heap.size) (H : Nat) (hH : w.heap.size = H)
    (hK : ∀ g cap w', w'.ownsRow base e size (.slice (some ⟨g, 0, none⟩) (k + m) cap) (k + m) (xs ++ news) → w.grownBy w' v.ownBlock → (v.ownBlock = some g ∨ g = H) → g < w'.heap.size → wpListIn F n P ops Q rest (a.put o.dst (.slice (some ⟨g, 0, none⟩) (k + m) cap)) w') :
    wpListIn F n P ops Q (o :: rest) a w := by
  refine wpListIn_plain hg fun K hK' => ?_
  obtain ⟨g, cap, w', hrun, r1, r2, r3, r4⟩ := run_append_lies (P := P) w t o.type base e i z size bytes h1 h2 h3 h4 h5 h6 h7 v k xs hown ad m c news hn hc h1c hm b1 b2 b3 H hH
  refine ⟨?_, ?_⟩
  · simp [Oper.about, hop, resolve, Target.leads, Sem.run_pure]
  · rw [Oper.semAt_plain F _ _ (by rw [hop]; intro c hc'; cases hc')]
    simp [execOp, hop, resolve, invoke, builtin, hs, hx, hrun, Result.andThen]
    exact hK' _ _ (hK g cap w' r1 r2 r3 r4)

/-- A slice of these numbers was returned; all that was there is as it was. -/
def Listed (w : World) (xs : List Int) (e : Ending) (w' : World) : Prop :=
  ∃ a c, e = .returned (.slice a xs.length c) ∧ Row w' w'.heap.size a xs.length xs ∧ xs.length ≤ c ∧ c ≤ maxLen ∧ Below w.heap.size w w'
theorem owns_row {w : World} {base e n : Nat} {v : Value} {xs : List Int} (h : w.ownsRow base e 1 v n (xs.map (Value.int .i64))) :
    ∃ a c, v = .slice a xs.length c ∧ Row w w.heap.size a xs.length xs ∧ xs.length ≤ c ∧ c ≤ maxLen := by
  have hl : xs.length = n := by simpa using h.1
  rcases h.2 with ⟨rfl, h0⟩ | ⟨g, c, cur, rfl, hb, hh, hnc, hcm, _⟩
  · obtain rfl : xs = [] := List.eq_nil_of_length_eq_zero (by omega)
    exact ⟨none, 0, rfl, Row.none_ _ _, Nat.le_refl _, by unfold maxLen; omega⟩
  · subst hl
    have hg := (Array.getElem?_eq_some_iff.1 hh).1
    have hm : Mine w base e g xs.length c xs := ⟨h, hb, hg, hnc, hcm⟩
    exact ⟨_, c, rfl, hm.row, hnc, hcm⟩
theorem World.ownsRow.same {w w' : World} {base e size n : Nat} {v : Value} {xs : List Value} (h : w.ownsRow base e size v n xs) (hs : ∀ g, v.ownBlock = some g → g < w.heap.size → w'.heap[g]? = w.heap[g]?) : w'.ownsRow base e size v n xs := by
  refine ⟨h.1, ?_⟩
  rcases h.2 with h2 | ⟨g, cap, cur, rfl, hb, hh, hr⟩
  · exact .inl h2
  · exact .inr ⟨g, cap, cur, rfl, hb, (hs g rfl (Array.getElem?_eq_some_iff.1 hh).1).trans hh, hr⟩

/-- .. in memory of the call's own. -/
def ListedN (w : World) (xs : List Int) (e : Ending) (w' : World) : Prop :=
  ∃ a c, e = .returned (.slice a xs.length c) ∧ Row w' w'.heap.size a xs.length xs ∧ xs.length ≤ c ∧ c ≤ maxLen ∧ Below w.heap.size w w' ∧ ∀ x, a = some x → w.heap.size ≤ x.block
theorem ListedN.listed {w w' : World} {xs : List Int} {e : Ending} (h : ListedN w xs e w') : Listed w xs e w' := by
  obtain ⟨a, c, h1, h2, h3, h4, h5, _⟩ := h
  exact ⟨a, c, h1, h2, h3, h4, h5⟩
/-- While a list is being filled: its box, its row. -/
structure Filling (w : World) (M : Nat → Prop) (pre : List (Int × Int)) (W : World) (v : Value) : Prop where
  box : Boxed W w.heap.size 22 v
  free : ¬ M w.heap.size
  row : W.ownsRow w.heap.size 3 1 v pre.length (pre.map fun c => Value.int .i64 c.1)
  off : ∀ g, v.ownBlock = some g → ¬ M g
  fit : ∀ k, M k → k < W.heap.size
  bel : Below w.heap.size w W
def Fills (w : World) (M : Nat → Prop) (pre : List (Int × Int)) (W : World) : Prop := ∃ v, Filling w M pre W v
theorem Fills.bides (w : World) : Bides w.heap.size (Fills w) := by
  rintro M M' pre W W' ⟨v, hv⟩ hb hs hm
  have no : ∀ k, k < W.heap.size → ¬ M k → ¬ M' k := fun k hk hn h => by
    rcases hm k h with h | h
    · exact hn h
    · omega
  refine ⟨v, ?_, no _ hv.box.lt hv.free, World.ownsRow.same hv.row (fun g hg hlt => hs g hlt (hv.off g hg)), fun g hg => no g (hv.row.lt g hg).2 (hv.off g hg), fun k hk => ?_, hv.bel.trans hb⟩
  · exact (hs _ hv.box.lt hv.free).trans hv.box
  · rcases hm k hk with h | h
    · exact Nat.lt_of_lt_of_le (hv.fit k h) hb.size
    · exact h.2

theorem filled {w V w1 : World} {M : Nat → Prop} {pre : List (Int × Int)} {q r : Int} {v : Value} {g cap : Nat} {tmp : Obj} {a : Act} (hv : Filling w M pre V v)
    (hown : w1.ownsRow w.heap.size 3 1 (.slice (some ⟨g, 0, none⟩) (pre.length + 1) cap) (pre.length + 1) ((pre.map fun c => Value.int .i64 c.1) ++ [.int .i64 q])) (hgrow : (V.alloc tmp).grownBy w1 v.ownBlock)
    (hat : v.ownBlock = some g ∨ g = V.heap.size + 1) (hbx : Boxed w1 w.heap.size 22 v) :
    Ends w.heap.size M (Fills w) (fun _ _ _ _ => False) (pre ++ [(q, r)]) V .normal a (w1.setCell ⟨w.heap.size, 0, none⟩ (.slice (some ⟨g, 0, none⟩) (pre.length + 1) cap)) := by
  have hn := hbx.not_row (by decide) hown
  have hzV := hv.bel.size
  have hb : Below w.heap.size V (w1.setCell ⟨w.heap.size, 0, none⟩ (.slice (some ⟨g, 0, none⟩) (pre.length + 1) cap)) :=
    (((Below.refl _ V).alloc hzV tmp).grown hgrow (by simp; omega) (fun k hk => (hv.row.lt k hk).1)).setCell (p := ⟨w.heap.size, 0, none⟩) (Nat.le_refl _) _
  have ks : ∀ k, M k → k < V.heap.size → (w1.setCell ⟨w.heap.size, 0, none⟩ (.slice (some ⟨g, 0, none⟩) (pre.length + 1) cap)).heap[k]? = V.heap[k]? := fun k hk hl => by
    refine (Below.heap_setCell _ _ _ k (fun e => hv.free (by rw [← (show k = w.heap.size from e)]; exact hk))).trans ((hgrow.block k (by simp; omega) (fun e => hv.off k e.symm hk)).trans (Below.heap_alloc _ _ _ hl))
  refine ⟨⟨hb, ks⟩, _, hbx.set _, hv.free, ?_, fun g' hg' hM => ?_, fun k hk => Nat.lt_of_lt_of_le (hv.fit k hk) hb.size, hv.bel.trans hb⟩
  · have := hown.kept (grownBy_setCell' w1 w.heap.size (.slice (some ⟨g, 0, none⟩) (pre.length + 1) cap)) (.inr hn.symm)
    simpa using this
  · obtain rfl : g = g' := by simpa [Value.ownBlock] using hg'
    rcases hat with h | h
    · exact hv.off _ h hM
    · have := hv.fit _ hM
      omega

set_option maxRecDepth 100000 in
set_option maxHeartbeats 1000000 in
theorem starts_new (gf : Nat) (lb : Array Value) (C : Nat → Prop) (L : List (Int × Int)) (w : World) (hL : L.length ≤ 1000) (hC : ∀ k, C k → k < w.heap.size) (eg : ∀ args w, (callFunc gf args).run Tryz.prog w = .ok (.enter gf args) w)
    (hs : Gives Tryz.prog gf lb encC w.heap.size C L w) :
    Calls Tryz.prog 130 #[.func (.func gf) #[] lb] w (ListedN w (L.map (·.1))) := by
  obtain ⟨i0, hi, hz0, hz1, hz2⟩ := info_parts info_int1
  have HS : Hid (Gives Tryz.prog gf lb encC w.heap.size C L (w.alloc (.cells #[.slice none 0 0] 22))) := Lib.hid (hs.later ((Below.refl _ _).alloc (Nat.le_refl _) _))
  have HC := Lib.hid hC
  have HE := Lib.hid eg
  clear hs hC eg
  refine (callsIn_wide (n := 1)).1 ?_
  refine callsIn_of_wp_marks Tryz.func130 rfl trivial ?_ rfl
  simp only [Tryz.ntmps130, List.size_toArray, List.length_cons, List.length_nil, Nat.reduceAdd, Nat.reduceSub, Array.replicate_succ, Array.replicate_zero, List.push_toArray, List.append_toArray, List.nil_append, List.cons_append]
  gi_wp2
  refine range_gives (gf := gf) rfl HE.out HS.out (fun _ => rfl) (by simp) (fun _ => False) (fun k h => .inr (HC.out k h)) (fun _ h => h.elim) (Fills w) (fun _ _ _ _ => False) (Fills.bides w) (fun _ _ _ _ _ _ h _ _ _ => h) ?start ?round ?done ?stop
  case start => exact ⟨.slice none 0 0, Boxed.new w _ _, fun h => h, World.ownsRow_nil _ _ _ _, by simp [Value.ownBlock], fun _ h => h.elim, (Below.refl _ _).alloc (Nat.le_refl _) _⟩
  case stop =>
    rintro D c M pre W _ _ _ h _
    exact h.elim
  case done =>
    rintro D M W hD hDW hM ⟨v, hv⟩ hdef
    have hc := hv.box.cell
    have HV := Lib.hid hv
    clear hv
    dsimp only
    gi_wp2
    refine leave_marks [D] W (by simp) (by simpa using hdef) (fun W' h1 h2 h3 h4 h5 => ⟨_, results_tmp rfl _ _ _, ?_⟩)
    have hv := HV.out
    have hrow : W'.ownsRow w.heap.size 3 1 v (L.map (·.1)).length ((L.map (·.1)).map (Value.int .i64)) := by
      have := World.ownsRow.same hv.row (w' := W') (fun g hg _ => h5 g (by simp; rintro rfl; exact hv.off _ hg hM))
      simpa [Function.comp_def] using this
    obtain ⟨a, c, rfl, hr, hc1, hc2⟩ := owns_row hrow
    refine ⟨a, c, rfl, hr, hc1, hc2, hv.bel.trans ⟨h1, h2, h3, by omega, fun k hk => h5 k ?_⟩, fun x hx => (hrow.lt x.block (by rw [hx]; rfl)).1⟩
    simp at hD ⊢
    omega
  case round =>
    intro l M pre x W hl hM hlt hpre hf
    obtain ⟨q, r⟩ := x
    have hlen : pre.length + 1 ≤ 1000 := by have := hpre.length_le; simp at this; omega
    have HF := Lib.hid hf
    have hz := HF.out.elim fun _ h => h.bel.size
    clear hf hpre
    dsimp only [encC]
    gi_wp2
    refine ⟨⟨(Below.refl _ _).alloc hz _, fun i _ hi => Below.heap_alloc _ _ _ hi⟩, fun o => ?_⟩
    obtain ⟨V, hV⟩ : ∃ V, V = (W.alloc (.cells #[.int .i64 q, .int .i64 r] 123)).putObj l o := ⟨_, rfl⟩
    rw [← hV]
    have hb2 : Below w.heap.size W V := by rw [hV]; exact ((Below.refl _ _).alloc hz _).trans (below_turned _ (by simp at hl; omega))
    have hs2 : ∀ i, i < W.heap.size → i ≠ l → V.heap[i]? = W.heap[i]? := fun i hi hn => by rw [hV]; exact (World.putObj_heap_other hn).trans (Below.heap_alloc _ _ _ hi)
    obtain ⟨v, hv⟩ := Fills.bides w M M pre W V HF.out hb2 (fun i hi hn => hs2 i hi (fun e => hn (e ▸ hM))) (fun i hi => .inl hi)
    have e0 : V.cell? ⟨W.heap.size, 0, none⟩ = some (.int .i64 q) := by
      rw [hV, World.cell?_of_block (a := ⟨W.heap.size, 0, none⟩) (World.putObj_heap_other (w := W.alloc _) (k := W.heap.size) (by omega))]
      simp [go_sem]
    have hc := hv.box.cell
    have hzV := hv.bel.size
    have hrow := hv.row
    have HV := Lib.hid hv
    clear hV hb2 hs2 hv
    gi_wp2_with (gi_at_builtin; refine listIn_append_lies _ rfl _ _ 22 rfl w.heap.size 3 i0 (.int .i64 0) 1 8 Tryz.underlying22 hi hz0 hz1 hz2 rfl (by decide) _ _ _ rfl (hrow.alloc _) ⟨V.heap.size, 0, none⟩ 1 1 [.int .i64 q] rfl rfl (cell_one_new _ _ _) (by simp [Value.oneCell']) (by decide) (by unfold maxLen; omega) (by omega) (by simp; omega) (V.heap.size + 1) (by simp) ?_; intro g cap w1 hown hgrow hat _; have hbx := (HV.out.box.alloc _).kept hgrow (HV.out.box.not_row (by decide) HV.out.row); have hc1 := hbx.cell; have hf1 := hbx.frozen)
    exact filled HV.out hown hgrow hat hbx
theorem starts_any (gf : Nat) (lb : Array Value) (C : Nat → Prop) (L : List (Int × Int)) (w : World) (hL : L.length ≤ 1000) (hC : ∀ k, C k → k < w.heap.size) (eg : ∀ args w, (callFunc gf args).run Tryz.prog w = .ok (.enter gf args) w)
    (hs : Gives Tryz.prog gf lb encC w.heap.size C L w) :
    Calls Tryz.prog 130 #[.func (.func gf) #[] lb] w (Listed w (L.map (·.1))) := (starts_new gf lb C L w hL hC eg hs).mono fun _ _ h => h.listed
end Go.Proofs.YtccjelpfmkbmiaaGreatDoor.Cl
end
section
namespace Go.Proofs.YtccjelpfmkbmiaaGreatDoor.Cl
open Go.Proofs.YtccjelpfmkbmiaaGreatDoor
set_option maxRecDepth 100000
open Go.RowKit Go.Shelf
attribute [local go_sem] Oper.semAt_some

/-- A function value that tells, of any cell, what p does. -/
def Tells (gf : Nat) (a : Int) (p : Int × Int → Bool) : Prop :=
  ∀ (q r : Int) (w : World), 0 ≤ q → q ≤ 100000 → 0 ≤ r → r ≤ 100 → Calls Tryz.prog gf #[.int .i64 a, .agg #[.int .i64 q, .int .i64 r]] w fun e w' => e = .returned (.bool (p (q, r))) ∧ Below w.heap.size w w'

/-- The first of L that is looked for, or the empty cell; and whether there is one. -/
def foundV (L : List (Int × Int)) (p : Int × Int → Bool) : Int × Int := (L.find? p).getD (0, 0)
def foundS (L : List (Int × Int)) (p : Int × Int → Bool) : Bool := (L.find? p).isSome
/-- While none is found: the call's own cells. -/
structure Finding (w : World) (gf : Nat) (a : Int) (s : Bool) (q r : Int) (M : Nat → Prop) (W : World) : Prop where
  look : W.cell? ⟨w.heap.size, 0, none⟩ = some (.func (.func gf) #[.int .i64 a] #[])
  at_ : W.cell? ⟨w.heap.size + 1, 0, none⟩ = some (.int .i64 q)
  room : W.cell? ⟨w.heap.size + 1, 1, none⟩ = some (.int .i64 r)
  is : W.cell? ⟨w.heap.size + 1 + 1, 0, none⟩ = some (.bool s)
  f0 : W.frozen? ⟨w.heap.size + 1, 0, none⟩ = false
  f1 : W.frozen? ⟨w.heap.size + 1, 1, none⟩ = false
  f2 : W.frozen? ⟨w.heap.size + 1 + 1, 0, none⟩ = false
  m0 : ¬ M w.heap.size
  m1 : ¬ M (w.heap.size + 1)
  m2 : ¬ M (w.heap.size + 1 + 1)
  bel : Below w.heap.size w W
theorem Finding.over {w : World} {gf : Nat} {a : Int} {s : Bool} {q r : Int} {M M' : Nat → Prop} {W W' : World} (h : Finding w gf a s q r M W) (hb : Below w.heap.size W W')
    (hs : ∀ k, k < W.heap.size → ¬ M k → W'.heap[k]? = W.heap[k]?) (hm : ∀ k, M' k → M k ∨ (W.heap.size ≤ k ∧ k < W'.heap.size)) : Finding w gf a s q r M' W' := by
  have no : ∀ k, k < W.heap.size → ¬ M k → ¬ M' k := fun k hk hn h => by
    rcases hm k h with h | h
    · exact hn h
    · omega
  have l0 := World.block_lt_of_cell? W _ h.look
  have l1 := World.block_lt_of_cell? W _ h.at_
  have l2 := World.block_lt_of_cell? W _ h.is
  simp only at l0 l1 l2
  exact ⟨(World.cell?_of_block (a := ⟨w.heap.size, 0, none⟩) (hs _ l0 h.m0)).trans h.look, (World.cell?_of_block (a := ⟨w.heap.size + 1, 0, none⟩) (hs _ l1 h.m1)).trans h.at_,
    (World.cell?_of_block (a := ⟨w.heap.size + 1, 1, none⟩) (hs _ l1 h.m1)).trans h.room, (World.cell?_of_block (a := ⟨w.heap.size + 1 + 1, 0, none⟩) (hs _ l2 h.m2)).trans h.is,
    (World.frozen?_of_block (a := ⟨w.heap.size + 1, 0, none⟩) (hs _ l1 h.m1)).trans h.f0, (World.frozen?_of_block (a := ⟨w.heap.size + 1, 1, none⟩) (hs _ l1 h.m1)).trans h.f1,
    (World.frozen?_of_block (a := ⟨w.heap.size + 1 + 1, 0, none⟩) (hs _ l2 h.m2)).trans h.f2, no _ l0 h.m0, no _ l1 h.m1, no _ l2 h.m2, h.bel.trans hb⟩

theorem Finding.stored {w : World} {gf : Nat} {a : Int} {s : Bool} {q r : Int} {M : Nat → Prop} {W : World} (h : Finding w gf a s q r M W) (s' : Bool) (q' r' : Int) :
    Finding w gf a s' q' r' M (((W.setCell ⟨w.heap.size + 1, 0, none⟩ (.int .i64 q')).setCell ⟨w.heap.size + 1, 1, none⟩ (.int .i64 r')).setCell ⟨w.heap.size + 1 + 1, 0, none⟩ (.bool s')) ∧
    ∀ k, k ≠ w.heap.size + 1 → k ≠ w.heap.size + 1 + 1 → (((W.setCell ⟨w.heap.size + 1, 0, none⟩ (.int .i64 q')).setCell ⟨w.heap.size + 1, 1, none⟩ (.int .i64 r')).setCell ⟨w.heap.size + 1 + 1, 0, none⟩ (.bool s')).heap[k]? = W.heap[k]? := by
  have hs : ∀ k, k ≠ w.heap.size + 1 → k ≠ w.heap.size + 1 + 1 → (((W.setCell ⟨w.heap.size + 1, 0, none⟩ (.int .i64 q')).setCell ⟨w.heap.size + 1, 1, none⟩ (.int .i64 r')).setCell ⟨w.heap.size + 1 + 1, 0, none⟩ (.bool s')).heap[k]? = W.heap[k]? :=
    fun k h1 h2 => ((Below.heap_setCell _ _ _ k h2).trans (Below.heap_setCell _ _ _ k h1)).trans (Below.heap_setCell _ _ _ k h1)
  have h0 := h.look
  have h1 := h.at_
  have h2 := h.room
  have h3 := h.is
  refine ⟨⟨(World.cell?_of_block (a := ⟨w.heap.size, 0, none⟩) (hs _ (by simp; try omega) (by simp; try omega))).trans h0, by simp [go_sem, h1], by simp [go_sem, h2], by simp [go_sem, h3], ?_, ?_, ?_, h.m0, h.m1, h.m2, ((h.bel.setCell (by simp; try omega) _).setCell (by simp; try omega) _).setCell (by simp; omega) _⟩, hs⟩
  · simp only [World.frozen?_setCell]; exact h.f0
  · simp only [World.frozen?_setCell]; exact h.f1
  · simp only [World.frozen?_setCell]; exact h.f2
/-- The results, read out of the cells. -/
theorem Finding.left {w : World} {gf : Nat} {a : Int} {s : Bool} {q r : Int} {M : Nat → Prop} {W : World} (h : Finding w gf a s q r M W) {L : List (Int × Int)} {p : Int × Int → Bool} (tmps : Array Value)
    (ht : tmps[4]?.getD undef = .pointer (some ⟨w.heap.size + 1, 0, none⟩)) (ht' : tmps[5]?.getD undef = .pointer (some ⟨w.heap.size + 1 + 1, 0, none⟩)) (hq : (foundV L p).1 = q) (hr : (foundV L p).2 = r) (hs : foundS L p = s) :
    LeavesIn Fence.wide 1 Tryz.prog Tryz.f108 tmps (fun e w' => e = .returned (.tuple #[.agg #[.int .i64 (foundV L p).1, .int .i64 (foundV L p).2], .bool (foundS L p)]) ∧ Below w.heap.size w w') [] .returning W := by
  refine ⟨_, ?_, by rw [hq, hr, hs], h.bel⟩
  have h1 := h.at_
  have h2 := h.room
  have h3 := h.is
  simp [results, Tryz.f108, go_sem, ht, ht', h1, h2, h3]


def NoneYet (w : World) (gf : Nat) (a : Int) (L : List (Int × Int)) (p : Int × Int → Bool) (M : Nat → Prop) (pre : List (Int × Int)) (W : World) : Prop := pre.find? p = none ∧ pre <+: L ∧ Finding w gf a false 0 0 M W
def OneNow (w : World) (gf : Nat) (a : Int) (L : List (Int × Int)) (p : Int × Int → Bool) (c : Code) (M : Nat → Prop) (_ : List (Int × Int)) (W : World) : Prop := c = .ret ∧ ∃ q r, L.find? p = some (q, r) ∧ Finding w gf a true q r M W
theorem find_none_snoc {pre : List (Int × Int)} {p : Int × Int → Bool} {x : Int × Int} (h : pre.find? p = none) (hx : p x = false) : (pre ++ [x]).find? p = none := by simp [List.find?_append, h, hx]
theorem find_now {L pre : List (Int × Int)} {p : Int × Int → Bool} {x : Int × Int} (h : pre.find? p = none) (hx : p x = true) (hp : pre ++ [x] <+: L) : L.find? p = some x := by
  obtain ⟨t, rfl⟩ := hp
  simp [List.find?_append, h, hx]

/-- What all cells of pages that may be meet. -/
def Bounded (L : List (Int × Int)) : Prop := ∀ c ∈ L, 0 ≤ c.1 ∧ c.1 ≤ 100000 ∧ 0 ≤ c.2 ∧ c.2 ≤ 100

set_option maxRecDepth 100000 in
set_option maxHeartbeats 1000000 in
theorem find_any (B : Nat) (A : Option Addr) (n c : Nat) (f : Nat → Int × Int) (gf : Nat) (a : Int) (p : Int × Int → Bool) (w : World) (hn : n ≤ 1000) (hz : Sz w) (hr : PRow w B A n f) (hB : B ≤ w.heap.size) (hL : Bounded (allL f n)) (eg : ∀ args w, (callFunc gf args).run Tryz.prog w = .ok (.enter gf args) w)
    (ht : Tells gf a p) :
    Calls Tryz.prog 108 #[.slice A n c, .func (.func gf) #[.int .i64 a] #[]] w fun e w' =>
      e = .returned (.tuple #[.agg #[.int .i64 (foundV (allL f n) p).1, .int .i64 (foundV (allL f n) p).2], .bool (foundS (allL f n) p)]) ∧ Below w.heap.size w w' := by
  have HT := Lib.hid ht
  have HL := Lib.hid hL
  obtain ⟨w3, hw3⟩ : ∃ w3, w3 = ((w.alloc (.cells #[.func (.func gf) #[.int .i64 a] #[]] 126)).alloc (.cells #[.int .i64 0, .int .i64 0] 123)).alloc (.cells #[.bool false] 4) := ⟨_, rfl⟩
  have hb3 : Below w.heap.size w w3 := by rw [hw3]; exact (((Below.refl _ _).alloc (Nat.le_refl _) _).alloc (by simp) _).alloc (by simp; omega) _
  have hz3 : w3.heap.size = w.heap.size + 1 + 1 + 1 := by rw [hw3]; simp
  have hF : Finding w gf a false 0 0 (fun k => k = w.heap.size + 1 + 1 + 1) (w3.alloc (.cells #[.slice A n c] 23)) := by
    refine ⟨?_, ?_, ?_, ?_, ?_, ?_, ?_, by omega, by omega, by omega, hb3.alloc (by omega) _⟩ <;> (rw [hw3]; simp [go_sem])
  have hG : Gives Tryz.prog 146 #[.pointer (some ⟨w.heap.size + 1 + 1 + 1, 0, none⟩)] encC w.heap.size (fun k => k = w.heap.size + 1 + 1 + 1) (allL f n) (w3.alloc (.cells #[.slice A n c] 23)) :=
    each_gives B w.heap.size A n c _ f _ hn ((hz.over hb3 hz.pos).alloc _) ((hr.over hb3 hB).alloc _ (by omega)) hB hz.pos (by simp; omega) (by rw [← hz3]; simp [go_sem])
  have HF := Lib.hid hF
  have HG := Lib.hid hG
  clear ht hL hF hG hz hr hb3
  refine (callsIn_wide (n := 1)).1 ?_
  refine callsIn_of_wp_marks Tryz.func108 rfl trivial ?_ rfl
  simp only [Tryz.ntmps108, List.size_toArray, List.length_cons, List.length_nil, Nat.reduceAdd, Nat.reduceSub, Array.replicate_succ, Array.replicate_zero, List.push_toArray, List.append_toArray, List.nil_append, List.cons_append]
  gi_wp2_with fail
  rw [← hw3]
  refine ⟨trivial, (callsIn_wide.2 (each_any _ _ _ _)).mono ?_⟩
  rintro e w' ⟨rfl, rfl⟩
  rw [hz3]
  have HZ3 := Lib.hid hz3
  clear hw3 hz3
  gi_wp2
  have hz3 := HZ3.out
  refine range_gives (gf := 146) rfl (enters_of Tryz.func146 (by kernel_rfl) rfl) HG.out (fun _ => rfl) (by simp; omega) (fun k => k = w.heap.size + 1 + 1 + 1) (fun _ h => .inl h) (by rintro k rfl; simp; omega)
    (NoneYet w gf a (allL f n) p) (OneNow w gf a (allL f n) p) (fun M M' pre W W' h hb hs hm => ⟨h.1, h.2.1, h.2.2.over hb hs hm⟩)
    (fun c M M' pre W W' h hb hs hm => by obtain ⟨h1, q, r, h2, h3⟩ := h; exact ⟨h1, q, r, h2, h3.over hb hs hm⟩) ⟨rfl, List.nil_prefix, HF.out⟩ ?round ?done ?stop
  case round =>
    intro l M pre x W hl hM hlt hpre ⟨hno, _, hf⟩
    obtain ⟨q, r⟩ := x
    obtain ⟨bq0, bq1, br0, br1⟩ := HL.out (q, r) (hpre.subset (by simp))
    simp only at bq0 bq1 br0 br1
    have hz := hf.bel.size
    have HFd := Lib.hid hf
    have HP := Lib.hid hpre
    have HN := Lib.hid hno
    clear hf hpre hno
    dsimp only [encC]
    gi_wp2
    refine ⟨⟨(Below.refl _ _).alloc hz _, fun i _ hi => Below.heap_alloc _ _ _ hi⟩, fun o => ?_⟩
    obtain ⟨V, hV⟩ : ∃ V, V = (W.alloc (.cells #[.int .i64 q, .int .i64 r] 123)).putObj l o := ⟨_, rfl⟩
    rw [← hV]
    have hb2 : Below w.heap.size W V := by rw [hV]; exact ((Below.refl _ _).alloc hz _).trans (below_turned _ (by simp at hl; omega))
    have hs2 : ∀ i, i < W.heap.size → i ≠ l → V.heap[i]? = W.heap[i]? := fun i hi hn => by rw [hV]; exact (World.putObj_heap_other hn).trans (Below.heap_alloc _ _ _ hi)
    have hv := HFd.out.over (M' := M) hb2 (fun i hi hn => hs2 i hi (fun e => hn (e ▸ hM))) (fun i hi => .inl hi)
    have e0 : V.cell? ⟨W.heap.size, 0, none⟩ = some (.int .i64 q) := by
      rw [hV, World.cell?_of_block (a := ⟨W.heap.size, 0, none⟩) (World.putObj_heap_other (w := W.alloc _) (k := W.heap.size) (by omega))]
      simp [go_sem]
    have e1 : V.cell? ⟨W.heap.size, 1, none⟩ = some (.int .i64 r) := by
      rw [hV, World.cell?_of_block (a := ⟨W.heap.size, 1, none⟩) (World.putObj_heap_other (w := W.alloc _) (k := W.heap.size) (by omega))]
      simp [go_sem]
    have hWV : W.heap.size < V.heap.size := by have := World.block_lt_of_cell? V _ e0; exact this
    have hlk := hv.look
    have HV := Lib.hid hv
    clear hV hb2 hs2 hv
    gi_wp2_with fail
    refine ⟨trivial, (CallsIn.inRound l (callsIn_wide.2 (HT.out q r V bq0 bq1 br0 br1))).mono ?_⟩
    rintro e w1 ⟨rfl, hb1⟩
    have hv1 := HV.out.over (M' := M) (hb1.mono HV.out.bel.size) (fun i hi _ => hb1.block i hi) (fun i hi => .inl hi)
    have hk1 : Kept w.heap.size M V w1 := ⟨hb1.mono HV.out.bel.size, fun i _ hi => hb1.block i hi⟩
    have x0 : w1.cell? ⟨W.heap.size, 0, none⟩ = some (.int .i64 q) := (hb1.cell (p := ⟨W.heap.size, 0, none⟩) hWV).trans e0
    have x1 : w1.cell? ⟨W.heap.size, 1, none⟩ = some (.int .i64 r) := (hb1.cell (p := ⟨W.heap.size, 1, none⟩) hWV).trans e1
    have HK := Lib.hid hk1
    clear hb1 hk1 e0 e1 hlk
    cases hp : p (q, r)
    · have HQ := Lib.hid hp
      have HV1 := Lib.hid hv1
      clear hp hv1
      gi_wp2
      exact ⟨HK.out, find_none_snoc HN.out HQ.out, HP.out, HV1.out⟩
    · have HQ := Lib.hid (find_now HN.out hp HP.out)
      have a0 := hv1.at_
      have a1 := hv1.room
      have a2 := hv1.is
      have f0 := hv1.f0
      have f1 := hv1.f1
      have f2 := hv1.f2
      have HV1 := Lib.hid hv1
      clear hp hv1
      gi_wp2
      obtain ⟨hv2, hs2⟩ := HV1.out.stored true q r
      refine ⟨HK.out.trans ⟨(((Below.refl _ _).setCell (by simp; try omega) _).setCell (by simp; try omega) _).setCell (by simp; omega) _, fun k hk _ => hs2 k ?_ ?_⟩, rfl, q, r, HQ.out, hv2⟩
      · rintro rfl; exact hv2.m1 hk
      · rintro rfl; exact hv2.m2 hk
  case done =>
    intro D M W hD hDW hM ⟨hno, _, hf⟩ hdef
    have HN := Lib.hid hno
    have a0 := hf.at_
    have a1 := hf.room
    have a2 := hf.is
    have f0 := hf.f0
    have f1 := hf.f1
    have f2 := hf.f2
    have HFd := Lib.hid hf
    clear hno hf
    dsimp only
    gi_wp2
    obtain ⟨hv2, hs2⟩ := HFd.out.stored false 0 0
    refine leave_marks [D] _ (by simp) ?_ (fun W' h1 h2 h3 h4 h5 => ?_)
    · intro E hE
      obtain rfl : E = D := by simpa using hE
      exact (hs2 E (by rintro rfl; exact hv2.m1 hM) (by rintro rfl; exact hv2.m2 hM)).trans hdef
    · refine (hv2.over (M' := M) ⟨h1, h2, h3, by omega, fun k hk => h5 k (by simp at hD ⊢; omega)⟩ (fun k _ hk => h5 k (by simp; rintro rfl; exact hk hM)) (fun _ h => .inl h)).left _ rfl rfl ?_ ?_ ?_ <;> simp [foundV, foundS, HN.out]
  case stop =>
    rintro D _ M pre W hD hDW hM ⟨rfl, q, r, hfd, hf⟩ hdef
    have HFd := Lib.hid hf
    have HQ := Lib.hid hfd
    clear hf hfd
    dsimp only
    gi_wp2
    refine leave_marks [D] W (by simp) (by simpa using hdef) (fun W' h1 h2 h3 h4 h5 => ?_)
    refine (HFd.out.over (M' := M) ⟨h1, h2, h3, by omega, fun k hk => h5 k (by simp at hD ⊢; omega)⟩ (fun k _ hk => h5 k (by simp; rintro rfl; exact hk hM)) (fun _ h => .inl h)).left _ rfl rfl ?_ ?_ ?_ <;> simp [foundV, foundS, HQ.out]
end Go.Proofs.YtccjelpfmkbmiaaGreatDoor.Cl
end
section
namespace Go.Proofs.YtccjelpfmkbmiaaGreatDoor.Cl
open Go.Proofs.YtccjelpfmkbmiaaGreatDoor
set_option maxRecDepth 100000
open Go.RowKit Go.Shelf

theorem pageL_bounds {k num : Nat} {room : Int} (hk : k ≤ 1000) (hn : num ≤ 8) (h0 : 0 ≤ room) (h1 : room ≤ 64) : Bounded (pageL k num room) := by
  intro c hc
  obtain ⟨j, hj, rfl⟩ := List.mem_map.1 hc
  have hj := List.mem_range.1 hj
  have a1 : (0 : Int) ≤ j * room := Int.mul_nonneg (by omega) h0
  have a2 : (j : Int) * room ≤ 8 * 64 := Int.mul_le_mul (by omega) h1 h0 (by omega)
  simp only
  omega
theorem cellsL_bounds {f : Nat → Int × Int} {n : Nat} (hp : ∀ k, k < n → pmB (f k) = true) (hn : n ≤ 1000) : Bounded (cellsL f n) := by
  induction n with
  | zero => intro c hc; simp [cellsL] at hc
  | succ n ih =>
    intro c hc
    rw [cellsL_succ] at hc
    rcases List.mem_append.1 hc with hc | hc
    · exact ih (fun k hk => hp k (by omega)) (by omega) c hc
    · have := num_room (hp n (by omega))
      exact pageL_bounds (by omega) this.1 this.2.1 this.2.2 c hc
theorem may_pm {f : Nat → Int × Int} {n k : Nat} (h : mayB f n = true) (hk : k < n) : pmB (f k) = true := ((okB_iff f k).1 (((mayB_iff f n).1 h).2.2.1 k hk)).1
theorem allL_bounds (f : Nat → Int × Int) (n : Nat) : Bounded (allL f n) := by
  unfold allL
  split
  · next h => exact cellsL_bounds (fun k hk => may_pm h hk) (by have := (mayB_iff f n).1 h; omega)
  · intro c hc; simp at hc
theorem cellsL_length {f : Nat → Int × Int} : ∀ {n : Nat}, (∀ k, k < n → pmB (f k) = true) → (cellsL f n).length ≤ 8 * n
  | 0, _ => by simp [cellsL]
  | n + 1, hp => by
    have := cellsL_length (f := f) (n := n) (fun k hk => hp k (by omega))
    have := (num_room (hp n (by omega))).1
    rw [cellsL_succ, List.length_append, pageL_length]
    omega
theorem allL_length (f : Nat → Int × Int) (n : Nat) : (allL f n).length ≤ 512 := by
  unfold allL
  split
  · next h =>
    have := cellsL_length (f := f) (n := n) (fun k hk => may_pm h hk)
    have := (mayB_iff f n).1 h
    omega
  · simp

/-- Which cell is looked for. -/
def pIn (a : Int) (c : Int × Int) : Bool := decide (c.1 ≤ a) && decide (a < c.1 + c.2)
def pAt (a : Int) (c : Int × Int) : Bool := c.1 == a
def pUp (a : Int) (c : Int × Int) : Bool := decide (a < c.1)

theorem tells_at (a : Int) : Tells 109 a (pAt a) := by
  intro q r w _ _ _ _
  have HE := Lib.hid (show pAt a (q, r) = (q == a) from rfl)
  go_enter Tryz.func109, Tryz.ntmps109
  go_wp2
  go_ret
  exact ⟨rint HE.out.symm, (Below.refl _ _).alloc (Nat.le_refl _) _⟩
theorem tells_up (a : Int) : Tells 139 a (pUp a) := by
  intro q r w _ _ _ _
  have HE := Lib.hid (show pUp a (q, r) = decide (a < q) from rfl)
  go_enter Tryz.func139, Tryz.ntmps139
  go_wp2
  go_ret
  exact ⟨rint HE.out.symm, (Below.refl _ _).alloc (Nat.le_refl _) _⟩

section
variable (B : Nat) (A : Option Addr) (n c : Nat) (f : Nat → Int × Int) (a : Int) (w : World)
theorem room_any (hn : n ≤ 1000) (hz : Sz w) (hr : PRow w B A n f) (hB : B ≤ w.heap.size) :
    Calls Tryz.prog 68 #[.slice A n c, .int .i64 a] w fun e w' => e = .returned (.int .i64 (foundV (allL f n) (pAt a)).2) ∧ Below w.heap.size w w' := by
  have HZ := Lib.hid hz
  have HR := Lib.hid hr
  clear hz hr
  go_enter Tryz.func68, Tryz.ntmps68
  go_wp2_with fail
  refine (find_any B A n c f _ a (pAt a) w hn HZ.out HR.out hB (allL_bounds f n) (enters_of Tryz.func109 (by kernel_rfl) rfl) (tells_at a)).mono ?_
  rintro e w1 ⟨rfl, hb1⟩
  have HB := Lib.hid hb1
  have hz1 := hb1.size
  clear hb1
  go_wp2
  go_ret
  exact ⟨rfl, HB.out.alloc hz1 _⟩
theorem next_any (hn : n ≤ 1000) (hz : Sz w) (hr : PRow w B A n f) (hB : B ≤ w.heap.size) :
    Calls Tryz.prog 116 #[.slice A n c, .int .i64 a] w fun e w' => e = .returned (.tuple #[.int .i64 (foundV (allL f n) (pUp a)).1, .bool (foundS (allL f n) (pUp a))]) ∧ Below w.heap.size w w' := by
  have HZ := Lib.hid hz
  have HR := Lib.hid hr
  clear hz hr
  go_enter Tryz.func116, Tryz.ntmps116
  go_wp2_with fail
  refine (find_any B A n c f _ a (pUp a) w hn HZ.out HR.out hB (allL_bounds f n) (enters_of Tryz.func139 (by kernel_rfl) rfl) (tells_up a)).mono ?_
  rintro e w1 ⟨rfl, hb1⟩
  have HB := Lib.hid hb1
  have hz1 := hb1.size
  clear hb1
  go_wp2
  go_ret2
  exact ⟨rfl, HB.out.alloc hz1 _⟩

/-- Where all cells begin, and those of a page. -/
def allS (f : Nat → Int × Int) (n : Nat) : List Int := (allL f n).map (·.1)
theorem Listed.over {w0 w w' : World} {xs : List Int} {e : Ending} (h : Listed w xs e w') (hb : Below w0.heap.size w0 w) : Listed w0 xs e w' := by
  obtain ⟨a, c, h1, h2, h3, h4, h5⟩ := h
  exact ⟨a, c, h1, h2, h3, h4, hb.trans (h5.mono hb.size)⟩

theorem Listed.out {w w' : World} {xs : List Int} {e : Ending} (h : Listed w xs e w') : ∃ a m c, e = .returned (.slice a m c) ∧ Hid (Listed w xs (.returned (.slice a m c)) w') := by
  obtain ⟨a, c, rfl, r⟩ := h
  exact ⟨a, xs.length, c, rfl, Lib.hid ⟨a, c, rfl, r⟩⟩

theorem all_any (hn : n ≤ 1000) (hz : Sz w) (hr : PRow w B A n f) (hB : B ≤ w.heap.size) :
    Calls Tryz.prog 97 #[.slice A n c] w (Listed w (allS f n)) := by
  have HZ := Lib.hid (hz.alloc (.cells #[.slice A n c] 23))
  have HR := Lib.hid (hr.alloc (.cells #[.slice A n c] 23) hB)
  have hp := hz.pos
  clear hz hr
  go_enter Tryz.func97, Tryz.ntmps97
  go_wp2_with fail
  refine (each_any _ _ _ _).mono ?_
  rintro e w1 ⟨rfl, rfl⟩
  go_wp2_with fail
  refine (starts_any _ _ (fun k => k = w.heap.size) (allL f n) _ (by have := allL_length f n; omega) (by rintro k rfl; simp) (enters_of Tryz.func146 (by kernel_rfl) rfl)
    (each_gives B _ A n c w.heap.size f _ hn HZ.out HR.out (by simp; omega) (by simp) (Nat.le_refl _) (by simp [go_sem]))).mono ?_
  rintro e w1 hl
  obtain ⟨a, m, c, rfl, HL⟩ := (hl.over ((Below.refl w.heap.size w).alloc (Nat.le_refl _) _)).out
  clear hl
  go_wp2
  go_ret
  exact HL.out
theorem ListedN.over {w0 w w' : World} {xs : List Int} {e : Ending} (h : ListedN w xs e w') (hb : Below w0.heap.size w0 w) : ListedN w0 xs e w' := by
  obtain ⟨a, c, h1, h2, h3, h4, h5, h6⟩ := h
  exact ⟨a, c, h1, h2, h3, h4, hb.trans (h5.mono hb.size), fun x hx => Nat.le_trans hb.size (h6 x hx)⟩
theorem ListedN.out {w w' : World} {xs : List Int} {e : Ending} (h : ListedN w xs e w') : ∃ a m c, e = .returned (.slice a m c) ∧ Hid (ListedN w xs (.returned (.slice a m c)) w') := by
  obtain ⟨a, c, rfl, r⟩ := h
  exact ⟨a, xs.length, c, rfl, Lib.hid ⟨a, c, rfl, r⟩⟩
/-- cells.All: in memory of the call's own. -/
theorem all_new (hn : n ≤ 1000) (hz : Sz w) (hr : PRow w B A n f) (hB : B ≤ w.heap.size) :
    Calls Tryz.prog 97 #[.slice A n c] w (ListedN w (allS f n)) := by
  have HZ := Lib.hid (hz.alloc (.cells #[.slice A n c] 23))
  have HR := Lib.hid (hr.alloc (.cells #[.slice A n c] 23) hB)
  have hp := hz.pos
  clear hz hr
  go_enter Tryz.func97, Tryz.ntmps97
  go_wp2_with fail
  refine (each_any _ _ _ _).mono ?_
  rintro e w1 ⟨rfl, rfl⟩
  go_wp2_with fail
  refine (starts_new _ _ (fun k => k = w.heap.size) (allL f n) _ (by have := allL_length f n; omega) (by rintro k rfl; simp) (enters_of Tryz.func146 (by kernel_rfl) rfl)
    (each_gives B _ A n c w.heap.size f _ hn HZ.out HR.out (by simp; omega) (by simp) (Nat.le_refl _) (by simp [go_sem]))).mono ?_
  rintro e w1 hl
  obtain ⟨a, m, c, rfl, HL⟩ := (hl.over ((Below.refl w.heap.size w).alloc (Nat.le_refl _) _)).out
  clear hl
  go_wp2
  go_ret
  exact HL.out
end
end Go.Proofs.YtccjelpfmkbmiaaGreatDoor.Cl
end
section
namespace Go.Proofs.YtccjelpfmkbmiaaGreatDoor.Cl
open Go.Proofs.YtccjelpfmkbmiaaGreatDoor
set_option maxRecDepth 100000

/-- Each cell's room ends ahead of the next one's first word; each has two words at least; the first words are addresses. -/
def Apart (L : List (Int × Int)) : Prop := L.Pairwise (fun c d => c.1 + c.2 ≤ d.1) ∧ ∀ c ∈ L, 16 ≤ c.1 ∧ 2 ≤ c.2
theorem Apart.tail {c : Int × Int} {L : List (Int × Int)} (h : Apart (c :: L)) : Apart L := ⟨(List.pairwise_cons.1 h.1).2, fun d hd => h.2 d (List.mem_cons_of_mem _ hd)⟩
theorem Apart.head {c d : Int × Int} {L : List (Int × Int)} (h : Apart (c :: L)) (hd : d ∈ L) : c.1 + c.2 ≤ d.1 := (List.pairwise_cons.1 h.1).1 d hd

theorem pIn_iff {a : Int} {c : Int × Int} : pIn a c = true ↔ c.1 ≤ a ∧ a < c.1 + c.2 := by simp [pIn]
theorem pAt_iff {a : Int} {c : Int × Int} : pAt a c = true ↔ c.1 = a := by simp [pAt]
/-- Just one cell has a word. -/
theorem Apart.one : ∀ {L : List (Int × Int)}, Apart L → ∀ {x : Int} {c d : Int × Int}, c ∈ L → d ∈ L → pIn x c = true → pIn x d = true → c = d
  | [], _, _, _, _, hc, _, _, _ => by simp at hc
  | h :: t, ha, x, c, d, hc, hd, pc, pd => by
    rw [pIn_iff] at pc pd
    rcases List.mem_cons.1 hc with rfl | hc' <;> rcases List.mem_cons.1 hd with rfl | hd'
    · rfl
    · have := ha.head hd'
      omega
    · have := ha.head hc'
      omega
    · exact Apart.one ha.tail hc' hd' (pIn_iff.2 pc) (pIn_iff.2 pd)
theorem Apart.in_at {L : List (Int × Int)} (h : Apart L) {x : Int} {c : Int × Int} (hc : c ∈ L) (hp : pAt x c = true) : pIn x c = true := by
  have := h.2 c hc
  rw [pAt_iff] at hp
  rw [pIn_iff]
  omega
theorem Apart.find_at {L : List (Int × Int)} (h : Apart L) {x : Int} {c : Int × Int} (hc : c ∈ L) (hp : c.1 = x) : L.find? (pAt x) = some c := by
  have hp' := pAt_iff.2 hp
  cases e : L.find? (pAt x) with
  | none => exact absurd hp' (List.find?_eq_none.1 e c hc)
  | some d => rw [h.one (List.mem_of_find?_eq_some e) hc (h.in_at (List.mem_of_find?_eq_some e) (List.find?_some e)) (h.in_at hc hp')]
/-- Places rise. -/
theorem Apart.rise {L : List (Int × Int)} (h : Apart L) {i j : Nat} {c d : Int × Int} (hij : i < j) (hc : L[i]? = some c) (hd : L[j]? = some d) : c.1 + c.2 ≤ d.1 := by
  obtain ⟨hi, rfl⟩ := List.getElem?_eq_some_iff.1 hc
  obtain ⟨hj, rfl⟩ := List.getElem?_eq_some_iff.1 hd
  exact List.pairwise_iff_getElem.1 h.1 i j hi hj hij

theorem mem_pageL {k num : Nat} {room : Int} {c : Int × Int} : c ∈ pageL k num room ↔ ∃ j : Nat, j < num ∧ c = (16 + k * 16 + j * room, room) := by
  unfold pageL
  rw [List.mem_map]
  constructor
  · rintro ⟨j, hj, rfl⟩
    exact ⟨j, List.mem_range.1 hj, rfl⟩
  · rintro ⟨j, hj, rfl⟩
    exact ⟨j, List.mem_range.2 hj, rfl⟩
theorem mul_step {i j : Nat} {room : Int} (h : i < j) (h0 : 0 ≤ room) : (i : Int) * room + room ≤ j * room := by
  have e : (i : Int) * room + room = ((i + 1 : Nat) : Int) * room := by rw [Int.natCast_add, Int.add_mul]; simp
  rw [e]
  exact Int.mul_le_mul_of_nonneg_right (by omega) h0
theorem pageL_apart {k num : Nat} {room : Int} (h2 : 2 ≤ room ∨ num = 0) : Apart (pageL k num room) := by
  rcases h2 with h2 | rfl
  · refine ⟨?_, fun c hc => ?_⟩
    · unfold pageL
      rw [List.pairwise_map]
      refine List.Pairwise.imp ?_ (List.pairwise_lt_range (n := num))
      intro i j hij
      have := mul_step hij (show 0 ≤ room by omega)
      simp only
      omega
    · obtain ⟨j, hj, rfl⟩ := mem_pageL.1 hc
      have : (0 : Int) ≤ j * room := Int.mul_nonneg (by omega) (by omega)
      simp only
      omega
  · exact ⟨by simp [pageL], by simp [pageL]⟩
theorem num_some {p : Int × Int} (h : pmB p = true) : 2 ≤ roomOf p ∨ numOf p = 0 := by
  rcases pm_cases h with rfl | rfl | rfl | rfl | rfl | rfl | rfl | rfl | rfl <;> decide
/-- How many words the cells have that begin on a page. -/
def wordsIn (p : Int × Int) : Int := if p.1 = 1 then 16 else if p.1 = 2 then 16 * p.2 else 0
theorem num_words {p : Int × Int} (h : pmB p = true) : (numOf p : Int) * roomOf p = wordsIn p := by
  rcases pm_cases h with rfl | rfl | rfl | rfl | rfl | rfl | rfl | rfl | rfl <;> decide
theorem num_kind {p : Int × Int} (h : pmB p = true) : 0 < numOf p ↔ p.1 = 1 ∨ p.1 = 2 := by
  rcases pm_cases h with rfl | rfl | rfl | rfl | rfl | rfl | rfl | rfl | rfl <;> decide

/-- Words told for: those of the first k pages, and what a large object ahead still asks for. -/
theorem st_words {f : Nat → Int × Int} {k : Nat} (h : okB f k = true) (hs : 0 ≤ st f k) (hk : (f k).1 ≠ 0) : wordsIn (f k) + 16 * st f k = 16 + 16 * st f (k + 1) := by
  obtain ⟨hp, h3⟩ := (okB_iff f k).1 h
  have hp := (pmB_iff _).1 hp
  unfold wordsIn
  by_cases e2 : (f k).1 = 2
  · rw [st_large e2]
    have : ¬ 0 < st f k := fun hh => by have := h3.2 hh; omega
    rw [if_neg (by omega), if_pos e2]
    omega
  · by_cases e3 : (f k).1 = 3
    · rw [st_rest e3 (h3.1 e3)]
      rw [if_neg (by omega), if_neg (by omega)]
      omega
    · have hns : ¬ 0 < st f k := fun hh => e3 (h3.2 hh)
      rw [st_same e2 hns, if_pos (by omega)]
theorem st_free {f : Nat → Int × Int} {k : Nat} (h : okB f k = true) (hs : 0 ≤ st f k) (hk : (f k).1 = 0) : st f k = 0 ∧ st f (k + 1) = 0 := by
  obtain ⟨hp, h3⟩ := (okB_iff f k).1 h
  have hns : ¬ 0 < st f k := fun hh => by have := h3.2 hh; omega
  have h0 : st f k = 0 := by omega
  exact ⟨h0, by rw [st_same (by omega) hns, h0]⟩
theorem st_some {f : Nat → Int × Int} {k : Nat} (h : okB f k = true) (hs : 0 ≤ st f k) (hk : 0 < numOf (f k)) : st f k = 0 := by
  obtain ⟨hp, h3⟩ := (okB_iff f k).1 h
  have := (num_kind hp).1 hk
  by_cases e : 0 < st f k
  · have := h3.2 e
    omega
  · omega

/-- The cells of the first k pages end where they may. -/
theorem cellsL_ends {f : Nat → Int × Int} {n : Nat} (hf : ∀ k, k < n → okB f k = true) : ∀ k, k ≤ n → Apart (cellsL f k) ∧ ∀ c ∈ cellsL f k, c.1 + c.2 ≤ 16 + 16 * k + 16 * st f k
  | 0, _ => ⟨⟨List.Pairwise.nil, by simp [cellsL]⟩, by simp [cellsL]⟩
  | k + 1, hk => by
    obtain ⟨ha, he⟩ := cellsL_ends hf k (by omega)
    have ho := hf k (by omega)
    have hp := ((okB_iff f k).1 ho).1
    have hs := (st_nonneg hf k (by omega)).1
    have hs1 := (st_nonneg hf (k + 1) hk).1
    have hpa := pageL_apart (k := k) (num_some hp)
    rw [cellsL_succ]
    refine ⟨⟨List.pairwise_append.2 ⟨ha.1, hpa.1, ?_⟩, fun c hc => ?_⟩, fun c hc => ?_⟩
    · intro c hc d hd
      obtain ⟨j, hj, rfl⟩ := mem_pageL.1 hd
      have h0 := st_some ho hs (by omega)
      have := he c hc
      have : (0 : Int) ≤ j * roomOf (f k) := Int.mul_nonneg (by omega) (num_room hp).2.1
      simp only
      omega
    · rcases List.mem_append.1 hc with hc | hc
      · exact ha.2 c hc
      · exact hpa.2 c hc
    · rcases List.mem_append.1 hc with hc | hc
      · have := he c hc
        by_cases e : (f k).1 = 0
        · have := st_free ho hs e
          omega
        · have := st_words ho hs e
          have : 0 ≤ wordsIn (f k) := by rw [← num_words hp]; exact Int.mul_nonneg (by omega) (num_room hp).2.1
          omega
      · obtain ⟨j, hj, rfl⟩ := mem_pageL.1 hc
        have h0 := st_some ho hs (by omega)
        have hk := (num_kind hp).1 (by omega)
        have := st_words ho hs (by omega)
        have := num_words hp
        have := mul_step hj (num_room hp).2.1
        simp only
        omega
theorem allL_apart (f : Nat → Int × Int) (n : Nat) : Apart (allL f n) := by
  unfold allL
  split
  · next h => exact (cellsL_ends ((mayB_iff f n).1 h).2.2.1 n (Nat.le_refl _)).1
  · exact ⟨List.Pairwise.nil, by simp⟩
theorem allL_may {f : Nat → Int × Int} {n : Nat} (h : mayB f n = true) : allL f n = cellsL f n := if_pos h
theorem allL_no {f : Nat → Int × Int} {n : Nat} (h : mayB f n = false) : allL f n = [] := if_neg (by rw [h]; decide)
theorem allL_end {f : Nat → Int × Int} {n : Nat} {c : Int × Int} (hc : c ∈ allL f n) : mayB f n = true ∧ c.1 + c.2 ≤ 16 + 16 * n := by
  cases h : mayB f n
  · rw [allL_no h] at hc
    simp at hc
  · rw [allL_may h] at hc
    obtain ⟨_, _, h2, h3⟩ := (mayB_iff f n).1 h
    have := (cellsL_ends h2 n (Nat.le_refl _)).2 c hc
    exact ⟨rfl, by omega⟩
theorem mem_cellsL {f : Nat → Int × Int} {c : Int × Int} : ∀ {n : Nat}, c ∈ cellsL f n → ∃ k j : Nat, k < n ∧ j < numOf (f k) ∧ c = (16 + k * 16 + j * roomOf (f k), roomOf (f k))
  | 0, h => by simp [cellsL] at h
  | n + 1, h => by
    rw [cellsL_succ] at h
    rcases List.mem_append.1 h with h | h
    · obtain ⟨k, j, h1, h2, h3⟩ := mem_cellsL h
      exact ⟨k, j, by omega, h2, h3⟩
    · obtain ⟨j, h1, h2⟩ := mem_pageL.1 h
      exact ⟨n, j, by omega, h1, h2⟩
/-- Cell j of page k, at its place. -/
theorem allL_get {f : Nat → Int × Int} {n k j : Nat} (h : mayB f n = true) (hk : k < n) (hj : j < numOf (f k)) : (allL f n)[(cellsL f k).length + j]? = some (16 + k * 16 + j * roomOf (f k), roomOf (f k)) := by
  rw [allL_may h]
  obtain ⟨t, ht⟩ := cellsL_prefix f (j := k + 1) (k := n) hk
  rw [← ht, cellsL_succ, List.append_assoc, List.getElem?_append_right (by omega), Nat.add_sub_cancel_left, List.getElem?_append_left (by rw [pageL_length]; exact hj)]
  exact pageL_get k _ _ j hj
end Go.Proofs.YtccjelpfmkbmiaaGreatDoor.Cl
end
section
namespace Go.Proofs.YtccjelpfmkbmiaaGreatDoor.Cl
open Go.Proofs.YtccjelpfmkbmiaaGreatDoor
set_option maxRecDepth 100000
open Go.RowKit

/-- The value is a slice of the walk's own, from base on, that holds these numbers. -/
structure Lst (base : Nat) (W : World) (v : Value) (xs : List Int) : Prop where
  own : W.ownsRow base 3 1 v xs.length (xs.map (Value.int .i64))
theorem Lst.nil (base : Nat) (W : World) : Lst base W (.slice none 0 0) [] := ⟨World.ownsRow_nil _ _ _ _⟩
theorem Lst.over {base : Nat} {W W' : World} {v : Value} {xs : List Int} (h : Lst base W v xs) (hb : Below W.heap.size W W') : Lst base W' v xs := ⟨World.ownsRow.same h.own fun g _ hl => hb.block g hl⟩
theorem Lst.below {base B : Nat} {W W' : World} {v : Value} {xs : List Int} (h : Lst base W v xs) (hl : ∀ g, v.ownBlock = some g → g < B) (hb : Below B W W') : Lst base W' v xs := ⟨World.ownsRow.same h.own fun g hg _ => hb.block g (hl g hg)⟩
theorem Lst.row {base : Nat} {W : World} {v : Value} {xs : List Int} (h : Lst base W v xs) : ∃ a c, v = .slice a xs.length c ∧ Row W W.heap.size a xs.length xs ∧ xs.length ≤ c ∧ c ≤ maxLen := owns_row h.own

theorem src_none {w : World} (A : Option Addr) (c : Nat) : Src Tryz.prog 1 22 (.slice A 0 c) 0 [] w := by
  cases A with
  | none => exact Src.ofNil w Tryz.underlying22 c
  | some a => exact Src.ofSlice w Tryz.underlying22 a 0 c [] rfl (by simp) (by simp)
/-- 'append(v, s...)', of a list of one's own, and any slice of numbers. -/
theorem run_cat {w : World} {base B : Nat} {v : Value} {xs ys : List Int} {A : Option Addr} {c : Nat} (ty : TypeId) (h : Lst base w v xs) (hr : Row w B A ys.length ys) (hb : base ≤ w.heap.size) (hlen : xs.length + ys.length ≤ 100000) :
    ∃ v' w', (Builtin.append_ #[22, 22] ty #[v, .slice A ys.length c]).run Tryz.prog w = .ok v' w' ∧ Lst base w' v' (xs ++ ys) ∧ Below base w w' := by
  obtain ⟨i0, hi, hz0, hz1, hz2⟩ := info_parts info_int1
  by_cases hy : ys = []
  · subst hy
    obtain ⟨a, c', rfl, _, hle, _⟩ := h.row
    refine ⟨_, w, run_append_nothing w 22 22 ty 3 i0 Tryz.underlying22 hi a xs.length c' hle _ (by rw [hz1]; exact src_none A c), ?_, Below.refl _ _⟩
    rw [List.append_nil]
    exact h
  · have hpos : 0 < ys.length := by
      cases ys with
      | nil => exact absurd rfl hy
      | cons _ _ => simp
    obtain ⟨b, off, rfl, _, hc⟩ := hr.2 hpos
    obtain ⟨v', w', hrun, r1, r2, _⟩ := run_append_own (P := Tryz.prog) w base 22 ty 3 i0 (.int .i64 0) 1 8 Tryz.underlying22 hi hz0 hz1 hz2 rfl (by decide) v xs.length (xs.map (Value.int .i64)) h.own ⟨b, off, none⟩ ys.length c (ys.map (Value.int .i64)) (by simp) (by
      intro j u hj
      have hjn : j < ys.length := by
        have := (List.getElem?_eq_some_iff.1 hj).1
        simpa using this
      rw [Addr.add_lit, hc j hjn]
      have e : (ys.map (Value.int .i64))[j]? = some (Value.int .i64 (ys.getD j 0)) := by simp [List.getD, List.getElem?_eq_getElem hjn]
      rw [e] at hj
      exact hj) (by
      intro u hu
      obtain ⟨x, _, rfl⟩ := List.mem_map.1 hu
      rfl) (by unfold maxLen; omega) (by omega) hb
    refine ⟨v', w', hrun, ⟨?_⟩, (Below.refl base w).grown r2 hb (fun k hk => (h.own.lt k hk).1)⟩
    rw [List.length_append, List.map_append]
    exact r1

theorem list_cat {w : World} {ops : Array Oper} {rest : List Oper} {o : Oper} {a : Act} {Q : Exit → Act → World → Prop} (hgd : o.guard = none) (s x : Operand)
    (ho : o.op = .call { callee := .builtin .append, args := #[s, x], argTypes := #[22, 22] }) {v : Value} (hs : a.eval s = v) {base B : Nat} {xs ys : List Int} {A : Option Addr} {n c : Nat} (hx : a.eval x = .slice A n c) (hn : n = ys.length)
    (h : Lst base w v xs) (hr : Row w B A ys.length ys) (hb : base ≤ w.heap.size) (hlen : xs.length + ys.length ≤ 100000)
    (hK : ∀ v' w', Lst base w' v' (xs ++ ys) → Below base w w' → wpList Tryz.prog ops Q rest (a.put o.dst v') w') : wpList Tryz.prog ops Q (o :: rest) a w :=
  wpList_plain hgd fun _ hK' => by
    subst hn
    obtain ⟨v', w', hrun, h1, h2⟩ := run_cat (c := c) o.type h hr hb hlen
    unfold Oper.wp execOp
    simp only [ho, resolve, invoke, builtin, Sem.run_bind, Sem.run_pure, Result.andThen_ok, List.map_toArray, List.map_cons, List.map_nil, hs, hx, hrun]
    exact hK' _ _ (hK v' w' h1 h2)
theorem row_lit1 (w : World) (a : Int) : Row (w.alloc (.cells #[.int .i64 a] 3)) (w.heap.size + 1) (some ⟨w.heap.size, 0, none⟩) 1 [a] := by
  refine ⟨rfl, fun _ => ⟨_, _, rfl, by omega, fun i hi => ?_⟩⟩
  match i, hi with
  | 0, _ => simp [go_sem]
end Go.Proofs.YtccjelpfmkbmiaaGreatDoor.Cl
end
section
namespace Go.Proofs.YtccjelpfmkbmiaaGreatDoor.Cl
open Go.Proofs.YtccjelpfmkbmiaaGreatDoor
set_option maxRecDepth 100000

/-- How many words the cell has that begins at word r, on a page that is p. -/
def pg (p : Int × Int) (r : Int) : Int := if p.1 = 2 ∧ r % 16 = 0 then 16 * p.2 else if p.1 = 1 ∧ r % wordsOf p.2 = 0 then wordsOf p.2 else 0
def bg (f : Nat → Int × Int) (n : Nat) (a : Int) : Int := if mayB f n = true ∧ 16 ≤ a ∧ a < 16 + 16 * (n : Int) then pg (f (a / 16 - 1).toNat) a else 0
theorem bg_no {f : Nat → Int × Int} {n : Nat} {a : Int} (h : ¬ (mayB f n = true ∧ 16 ≤ a ∧ a < 16 + 16 * (n : Int))) : bg f n a = 0 := if_neg h
theorem bg_in {f : Nat → Int × Int} {n k : Nat} {a : Int} (h : mayB f n = true) (h0 : 16 ≤ a) (h1 : a < 16 + 16 * (n : Int)) (hk : a / 16 - 1 = k) : bg f n a = pg (f k) a := by
  unfold bg
  rw [if_pos ⟨h, h0, h1⟩, hk, Int.toNat_natCast]
theorem pg_shift {p : Int × Int} (h : pmB p = true) (k : Nat) (r : Int) : pg p (16 + k * 16 + r) = pg p r := by
  have e16 : (16 + (k : Int) * 16 + r) % 16 = r % 16 := by omega
  have e8 : (16 + (k : Int) * 16 + r) % 8 = r % 8 := by omega
  have e4 : (16 + (k : Int) * 16 + r) % 4 = r % 4 := by omega
  have e2 : (16 + (k : Int) * 16 + r) % 2 = r % 2 := by omega
  rcases pm_cases h with rfl | rfl | rfl | rfl | rfl | rfl | rfl | rfl | rfl <;> simp [pg, wordsOf, e16, e8, e4, e2]
theorem pg_cell {p : Int × Int} (h : pmB p = true) {j : Nat} (hj : j < numOf p) : pg p (j * roomOf p) = roomOf p := by
  have key : ∀ q : Int × Int, (∀ i, i < numOf q → pg q ((i : Nat) * roomOf q) = roomOf q) → p = q → pg p (j * roomOf p) = roomOf p := by
    rintro q hq rfl
    exact hq j hj
  rcases pm_cases h with e | e | e | e | e | e | e | e | e
  all_goals exact key _ (by decide) e
theorem pg_zero {p : Int × Int} (h : pmB p = true) {r : Nat} (hr : r < 16) : pg p r = 0 ∨ ∃ j, j < numOf p ∧ (r : Int) = (j : Nat) * roomOf p := by
  have key : ∀ q : Int × Int, (∀ r, r < 16 → pg q ((r : Nat) : Int) = 0 ∨ ∃ j, j < numOf q ∧ ((r : Nat) : Int) = (j : Nat) * roomOf q) → p = q → pg p r = 0 ∨ ∃ j, j < numOf p ∧ (r : Int) = (j : Nat) * roomOf p := by
    rintro q hq rfl
    exact hq r hr
  rcases pm_cases h with e | e | e | e | e | e | e | e | e
  all_goals exact key _ (by decide) e
theorem step_on {p : Int × Int} (h : pmB p = true) {j : Nat} (hj : j < numOf p) : (j : Int) * roomOf p < 16 := by
  rcases pm_cases h with rfl | rfl | rfl | rfl | rfl | rfl | rfl | rfl | rfl <;> simp [numOf, roomOf, wordsOf] at hj ⊢ <;> omega
/-- A cell lies on the page on which it begins. -/
theorem cell_page {f : Nat → Int × Int} {n : Nat} {c : Int × Int} (h : c ∈ allL f n) : mayB f n = true ∧ ∃ k j : Nat, k < n ∧ j < numOf (f k) ∧ pmB (f k) = true ∧ c = (16 + k * 16 + j * roomOf (f k), roomOf (f k)) ∧ 0 ≤ (j : Int) * roomOf (f k) ∧ (j : Int) * roomOf (f k) < 16 := by
  have hm := (allL_end h).1
  rw [allL_may hm] at h
  obtain ⟨k, j, hk, hj, hc⟩ := mem_cellsL h
  have hp := may_pm hm hk
  exact ⟨hm, k, j, hk, hj, hp, hc, Int.mul_nonneg (by omega) (num_room hp).2.1, step_on hp hj⟩
/-- Begins is Room. -/
theorem bg_room (f : Nat → Int × Int) (n : Nat) (a : Int) : (foundV (allL f n) (pAt a)).2 = bg f n a := by
  by_cases hex : ∃ c, c ∈ allL f n ∧ c.1 = a
  · obtain ⟨c, hc, rfl⟩ := hex
    have hf := (allL_apart f n).find_at hc rfl
    obtain ⟨hm, k, j, hk, hj, hp, rfl, h0, h1⟩ := cell_page hc
    rw [show (foundV (allL f n) (pAt (16 + (k : Int) * 16 + j * roomOf (f k), roomOf (f k)).1)).2 = roomOf (f k) by simp only [foundV, hf, Option.getD_some]]
    rw [bg_in (k := k) hm (by simp only; omega) (by simp only; omega) (by simp only; omega), pg_shift hp, pg_cell hp hj]
  · have hf : (allL f n).find? (pAt a) = none := by
      rw [List.find?_eq_none]
      intro c hc hp
      exact hex ⟨c, hc, pAt_iff.1 hp⟩
    rw [show (foundV (allL f n) (pAt a)).2 = 0 by simp [foundV, hf]]
    by_cases h : mayB f n = true ∧ 16 ≤ a ∧ a < 16 + 16 * (n : Int)
    · obtain ⟨hm, h0, h1⟩ := h
      obtain ⟨k, hk⟩ : ∃ k : Nat, a / 16 - 1 = k := ⟨(a / 16 - 1).toNat, by omega⟩
      obtain ⟨r, hr⟩ : ∃ r : Nat, a = 16 + k * 16 + r := ⟨(a - 16 - k * 16).toNat, by omega⟩
      have hp := may_pm hm (show k < n by omega)
      rw [bg_in hm h0 h1 hk, hr, pg_shift hp]
      rcases pg_zero hp (show r < 16 by omega) with h | ⟨j, hj, e⟩
      · exact h.symm
      · exfalso
        refine hex ⟨_, List.mem_of_getElem? (allL_get hm (show k < n by omega) hj), ?_⟩
        simp only
        omega
    · exact (bg_no h).symm
theorem bg_nonneg (f : Nat → Int × Int) (n : Nat) (a : Int) : 0 ≤ bg f n a ∧ bg f n a ≤ 100 := by
  rw [← bg_room]
  unfold foundV
  cases h : (allL f n).find? (pAt a) with
  | none => simp
  | some c =>
    have := allL_bounds f n c (List.mem_of_find?_eq_some h)
    simp only [Option.getD_some]
    omega
/-- Where Begins tells room, a cell begins; nowhere else. -/
theorem bg_some {f : Nat → Int × Int} {n : Nat} {a : Int} (h : 0 < bg f n a) : ∃ c, c ∈ allL f n ∧ c.1 = a := by
  rw [← bg_room] at h
  unfold foundV at h
  cases hf : (allL f n).find? (pAt a) with
  | none => rw [hf] at h; simp at h
  | some c => exact ⟨c, List.mem_of_find?_eq_some hf, pAt_iff.1 (List.find?_some hf)⟩
theorem bg_cell {f : Nat → Int × Int} {n : Nat} {c : Int × Int} (h : c ∈ allL f n) : bg f n c.1 = c.2 := by
  rw [← bg_room]
  unfold foundV
  rw [(allL_apart f n).find_at h rfl]
  rfl

end Go.Proofs.YtccjelpfmkbmiaaGreatDoor.Cl
end
section
namespace Go.Proofs.YtccjelpfmkbmiaaGreatDoor.Cl
open Go.Proofs.YtccjelpfmkbmiaaGreatDoor
set_option maxRecDepth 100000
open Go.RowKit

section
variable (B : Nat) (A : Option Addr) (n c : Nat) (f : Nat → Int × Int) (a : Int) (w : World)

end
end Go.Proofs.YtccjelpfmkbmiaaGreatDoor.Cl
end
section
namespace Go.Proofs.YtccjelpfmkbmiaaGreatDoor
open Go.RowKit
set_option maxRecDepth 100000

theorem below_drawn' {B : Nat} {a w : World} (h : Below B a w) (n : Nat) : Below B a (w.drewN n) := ⟨h.os, h.tape, h.output, h.size, h.block⟩
/-- Is the cell at a of the class c, and not used? -/
def freeH (d : Hd_) (n : Nat) (a c : Int) : Bool :=
  if Cl.bg d.f n a = 0 then false else decide ((d.f (a / 16 - 1).toNat).1 = 1 ∧ (d.f (a / 16 - 1).toNat).2 = c) && (d.ws.getD (a - 16).toNat 0 == 0)
end Go.Proofs.YtccjelpfmkbmiaaGreatDoor
end
section
namespace Go.Proofs.YtccjelpfmkbmiaaGreatDoor
open Go.RowKit
set_option maxRecDepth 100000

theorem info_l3 : (Tryz.prog.info? 25).map (fun i => (i.zero, i.size, i.bytes)) = some (some (.agg #[.slice none 0 0, .slice none 0 0, .slice none 0 0]), 3, 72) := by kernel_rfl
def lcell (u : Nat → Nat → Ls.Sl) (j : Nat) : Value := .slice (u (j / 3) (j % 3)).a (u (j / 3) (j % 3)).n (u (j / 3) (j % 3)).c
def lcells (u : Nat → Nat → Ls.Sl) (n : Nat) : List Value := (List.range (n * 3)).map (lcell u)
theorem lcells_length (u : Nat → Nat → Ls.Sl) (n : Nat) : (lcells u n).length = n * 3 := by simp [lcells]
theorem lcells_at (u : Nat → Nat → Ls.Sl) (n i r : Nat) (hi : i < n) (hr : r < 3) : (lcells u n)[i * 3 + r]? = some (.slice (u i r).a (u i r).n (u i r).c) := by
  have h : i * 3 + r < n * 3 := by omega
  rw [lcells, List.getElem?_map, List.getElem?_range h]
  simp only [Option.map_some, lcell]
  rw [show (i * 3 + r) / 3 = i by omega, show (i * 3 + r) % 3 = r by omega]
/-- One ahead of many. -/
def ahead {α : Type} (u : α) (U : Nat → α) : Nat → α := fun | 0 => u | k + 1 => U k
theorem lcells_ahead (u : Nat → Ls.Sl) (U : Nat → Nat → Ls.Sl) (m : Nat) : lcells (ahead u U) (1 + m) = lcells (fun _ => u) 1 ++ lcells U m := by
  apply List.ext_getElem?
  intro j
  by_cases hj : j < 3
  · rw [List.getElem?_append_left (by rw [lcells_length]; omega)]
    have h1 := lcells_at (ahead u U) (1 + m) 0 j (by omega) hj
    have h2 := lcells_at (fun _ => u) 1 0 j (by omega) hj
    simp only [Nat.zero_mul, Nat.zero_add] at h1 h2
    rw [h1, h2]
    rfl
  · rw [List.getElem?_append_right (by rw [lcells_length]; omega), lcells_length]
    by_cases hm : j < (1 + m) * 3
    · have h1 := lcells_at (ahead u U) (1 + m) (j / 3) (j % 3) (by omega) (by omega)
      have h2 := lcells_at U m (j / 3 - 1) (j % 3) (by omega) (by omega)
      rw [show j / 3 * 3 + j % 3 = j by omega] at h1
      rw [show (j / 3 - 1) * 3 + j % 3 = j - 1 * 3 by omega] at h2
      rw [h1, h2]
      have e : ahead u U (j / 3) = U (j / 3 - 1) := by
        obtain ⟨q, hq⟩ : ∃ q, j / 3 = q + 1 := ⟨j / 3 - 1, by omega⟩
        rw [hq]
        rfl
      rw [e]
    · rw [List.getElem?_eq_none (by rw [lcells_length]; omega), List.getElem?_eq_none (by rw [lcells_length]; omega)]
/-- A slice of lists that a walk made. -/
theorem lrow_of {w : World} {base n : Nat} {g c : Nat} {u : Nat → Nat → Ls.Sl} {f : Nat → Nat → List Int} {B : Nat} (h : w.ownsRow base 25 3 (.slice (some ⟨g, 0, none⟩) n c) n (lcells u n)) (hg : g < B) (hl : ∀ i, i < n → Ls.L3 w B (u i) (f i)) : Ls.LRow w B (some ⟨g, 0, none⟩) n u f := fun _ =>
  ⟨g, 0, rfl, hg, fun i hi => ⟨fun r hr => by
    have := (h.cellAt (i * 3 + r) (by omega)).trans (lcells_at u n i r hi hr)
    simpa using this, hl i hi⟩⟩
end Go.Proofs.YtccjelpfmkbmiaaGreatDoor
end
section
namespace Go.Proofs.YtccjelpfmkbmiaaGreatDoor.Cl
open Go.Proofs.YtccjelpfmkbmiaaGreatDoor
set_option maxRecDepth 100000
open Go.RowKit

theorem allS_short (f : Nat → Int × Int) (n i : Nat) : ((allS f n).take i).length ≤ 512 := by
  have h1 : (allS f n).length = (allL f n).length := by simp [allS]
  have h2 := allL_length f n
  rw [List.length_take]
  omega
section
variable (B : Nat) (A : Option Addr) (n c : Nat) (f : Nat → Int × Int) (a : Int) (w : World)

end
end Go.Proofs.YtccjelpfmkbmiaaGreatDoor.Cl
end
