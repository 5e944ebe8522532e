/-
  Package cells' starts: what an iterator's value hands on is listed, in memory of the call's own.
-/
import Derived.Test.YtlmaeppckaempaaDoorClEach
import Derived.Test.YtlmaeppckaempaaDoorRow
import Derived.Deep.AppendLies
import Derived.RangeFuncBox
namespace Go.Proofs.YtlmaeppckaempaaDoor
open Go.RowKit Go.Shelf
attribute [local go_sem] Oper.semAt_some

theorem info_int1 : (Tryd.prog.info? 3).map (fun i => (i.zero, i.size, i.bytes)) = some (some (.int .i64 0), 1, 8) := by kernel_rfl

/-- 'append' in a fenced walk, and where the new slice lies. -/
theorem listIn_append_lies {F : Fence} {n : Nat} {P : Program} (w : World) {ops : Array Oper} {rest : List Oper} {o : Oper} {a : Act} {Q : Exit → Act → World → Prop}
    (hg : o.guard = none) (s x : Operand) (t : TypeId) (hop : o.op = Op.call { callee := Callee.builtin Builtin.append, args := #[s, x], argTypes := #[t, t] })
    (base : Nat) (e : TypeId) (i : TypeInfo) (z : Value) (size bytes : Nat) (h1 : P.underlying t = some (.slice e)) (h2 : P.info? e = some i) (h3 : i.zero = some z) (h4 : i.size = size) (h5 : i.bytes = bytes) (h6 : z.cells.size = size) (h7 : 0 < size)
    (v : Value) (k : Nat) (xs : List Value) (hs : a.eval s = v) (hown : w.ownsRow base e size v k xs) (ad : Addr) (m c : Nat) (news : List Value) (hx : a.eval x = .slice (some ad) m c) (hn : news.length = m * size)
    (hc : ∀ j u, news[j]? = some u → w.cell? (ad.add j) = some u) (h1c : ∀ u ∈ news, u.oneCell' = true) (hm : 0 < m) (b1 : k + m ≤ maxLen) (b2 : (k + m) * bytes ≤ 140737488355328) (b3 : base ≤ w.heap.size) (H : Nat) (hH : w.heap.size = H)
    (hK : ∀ g cap w', w'.ownsRow base e size (.slice (some ⟨g, 0, none⟩) (k + m) cap) (k + m) (xs ++ news) → w.grownBy w' v.ownBlock → (v.ownBlock = some g ∨ g = H) → g < w'.heap.size → wpListIn F n P ops Q rest (a.put o.dst (.slice (some ⟨g, 0, none⟩) (k + m) cap)) w') :
    wpListIn F n P ops Q (o :: rest) a w := by
  refine wpListIn_plain hg fun K hK' => ?_
  obtain ⟨g, cap, w', hrun, r1, r2, r3, r4⟩ := run_append_lies (P := P) w t o.type base e i z size bytes h1 h2 h3 h4 h5 h6 h7 v k xs hown ad m c news hn hc h1c hm b1 b2 b3 H hH
  refine ⟨?_, ?_⟩
  · simp [Oper.about, hop, resolve, Target.leads, Sem.run_pure]
  · rw [Oper.semAt_plain F _ _ (by rw [hop]; intro c hc'; cases hc')]
    simp [execOp, hop, resolve, invoke, builtin, hs, hx, hrun, Result.andThen]
    exact hK' _ _ (hK g cap w' r1 r2 r3 r4)

/-- A slice of these numbers was returned; all that was there is as it was. -/
def Listed (w : World) (xs : List Int) (e : Ending) (w' : World) : Prop :=
  ∃ a c, e = .returned (.slice a xs.length c) ∧ Row w' w'.heap.size a xs.length xs ∧ xs.length ≤ c ∧ c ≤ maxLen ∧ Below w.heap.size w w'
theorem owns_row {w : World} {base e n : Nat} {v : Value} {xs : List Int} (h : w.ownsRow base e 1 v n (xs.map (Value.int .i64))) :
    ∃ a c, v = .slice a xs.length c ∧ Row w w.heap.size a xs.length xs ∧ xs.length ≤ c ∧ c ≤ maxLen := by
  have hl : xs.length = n := by simpa using h.1
  rcases h.2 with ⟨rfl, h0⟩ | ⟨g, c, cur, rfl, hb, hh, hnc, hcm, _⟩
  · obtain rfl : xs = [] := List.eq_nil_of_length_eq_zero (by omega)
    exact ⟨none, 0, rfl, Row.none_ _ _, Nat.le_refl _, by unfold maxLen; omega⟩
  · subst hl
    have hg := (Array.getElem?_eq_some_iff.1 hh).1
    have hm : Mine w base e g xs.length c xs := ⟨h, hb, hg, hnc, hcm⟩
    exact ⟨_, c, rfl, hm.row, hnc, hcm⟩
theorem World.ownsRow.same {w w' : World} {base e size n : Nat} {v : Value} {xs : List Value} (h : w.ownsRow base e size v n xs) (hs : ∀ g, v.ownBlock = some g → g < w.heap.size → w'.heap[g]? = w.heap[g]?) : w'.ownsRow base e size v n xs := by
  refine ⟨h.1, ?_⟩
  rcases h.2 with h2 | ⟨g, cap, cur, rfl, hb, hh, hr⟩
  · exact .inl h2
  · exact .inr ⟨g, cap, cur, rfl, hb, (hs g rfl (Array.getElem?_eq_some_iff.1 hh).1).trans hh, hr⟩

/-- While a list is being filled: its box, its row. -/
structure Filling (w : World) (M : Nat → Prop) (pre : List (Int × Int)) (W : World) (v : Value) : Prop where
  box : Boxed W w.heap.size 25 v
  free : ¬ M w.heap.size
  row : W.ownsRow w.heap.size 3 1 v pre.length (pre.map fun c => Value.int .i64 c.1)
  off : ∀ g, v.ownBlock = some g → ¬ M g
  fit : ∀ k, M k → k < W.heap.size
  bel : Below w.heap.size w W
def Fills (w : World) (M : Nat → Prop) (pre : List (Int × Int)) (W : World) : Prop := ∃ v, Filling w M pre W v
theorem Fills.bides (w : World) : Bides w.heap.size (Fills w) := by
  rintro M M' pre W W' ⟨v, hv⟩ hb hs hm
  have no : ∀ k, k < W.heap.size → ¬ M k → ¬ M' k := fun k hk hn h => by
    rcases hm k h with h | h
    · exact hn h
    · omega
  refine ⟨v, ?_, no _ hv.box.lt hv.free, World.ownsRow.same hv.row (fun g hg hlt => hs g hlt (hv.off g hg)), fun g hg => no g (hv.row.lt g hg).2 (hv.off g hg), fun k hk => ?_, hv.bel.trans hb⟩
  · exact (hs _ hv.box.lt hv.free).trans hv.box
  · rcases hm k hk with h | h
    · exact Nat.lt_of_lt_of_le (hv.fit k h) hb.size
    · exact h.2

theorem filled {w V w1 : World} {M : Nat → Prop} {pre : List (Int × Int)} {q r : Int} {v : Value} {g cap : Nat} {tmp : Obj} {a : Act} (hv : Filling w M pre V v)
    (hown : w1.ownsRow w.heap.size 3 1 (.slice (some ⟨g, 0, none⟩) (pre.length + 1) cap) (pre.length + 1) ((pre.map fun c => Value.int .i64 c.1) ++ [.int .i64 q])) (hgrow : (V.alloc tmp).grownBy w1 v.ownBlock)
    (hat : v.ownBlock = some g ∨ g = V.heap.size + 1) (hbx : Boxed w1 w.heap.size 25 v) :
    Ends w.heap.size M (Fills w) (fun _ _ _ _ => False) (pre ++ [(q, r)]) V .normal a (w1.setCell ⟨w.heap.size, 0, none⟩ (.slice (some ⟨g, 0, none⟩) (pre.length + 1) cap)) := by
  have hn := hbx.not_row (by decide) hown
  have hzV := hv.bel.size
  have hb : Below w.heap.size V (w1.setCell ⟨w.heap.size, 0, none⟩ (.slice (some ⟨g, 0, none⟩) (pre.length + 1) cap)) :=
    (((Below.refl _ V).alloc hzV tmp).grown hgrow (by simp; omega) (fun k hk => (hv.row.lt k hk).1)).setCell (p := ⟨w.heap.size, 0, none⟩) (Nat.le_refl _) _
  have ks : ∀ k, M k → k < V.heap.size → (w1.setCell ⟨w.heap.size, 0, none⟩ (.slice (some ⟨g, 0, none⟩) (pre.length + 1) cap)).heap[k]? = V.heap[k]? := fun k hk hl => by
    refine (Below.heap_setCell _ _ _ k (fun e => hv.free (by rw [← (show k = w.heap.size from e)]; exact hk))).trans ((hgrow.block k (by simp; omega) (fun e => hv.off k e.symm hk)).trans (Below.heap_alloc _ _ _ hl))
  refine ⟨⟨hb, ks⟩, _, hbx.set _, hv.free, ?_, fun g' hg' hM => ?_, fun k hk => Nat.lt_of_lt_of_le (hv.fit k hk) hb.size, hv.bel.trans hb⟩
  · have := hown.kept (grownBy_setCell' w1 w.heap.size (.slice (some ⟨g, 0, none⟩) (pre.length + 1) cap)) (.inr hn.symm)
    simpa using this
  · obtain rfl : g = g' := by simpa [Value.ownBlock] using hg'
    rcases hat with h | h
    · exact hv.off _ h hM
    · have := hv.fit _ hM
      omega

set_option maxRecDepth 100000 in
set_option maxHeartbeats 1000000 in
theorem starts_any (gf : Nat) (lb : Array Value) (C : Nat → Prop) (L : List (Int × Int)) (w : World) (hL : L.length ≤ 1000) (hC : ∀ k, C k → k < w.heap.size) (eg : ∀ args w, (callFunc gf args).run Tryd.prog w = .ok (.enter gf args) w)
    (hs : Gives Tryd.prog gf lb encC w.heap.size C L w) :
    Calls Tryd.prog 26 #[.func (.func gf) #[] lb] w (Listed w (L.map (·.1))) := by
  obtain ⟨i0, hi, hz0, hz1, hz2⟩ := info_parts info_int1
  have HS : Hid (Gives Tryd.prog gf lb encC w.heap.size C L (w.alloc (.cells #[.slice none 0 0] 25))) := Lib.hid (hs.later ((Below.refl _ _).alloc (Nat.le_refl _) _))
  have HC := Lib.hid hC
  have HE := Lib.hid eg
  clear hs hC eg
  refine (callsIn_wide (n := 1)).1 ?_
  refine callsIn_of_wp_marks Tryd.func26 rfl trivial ?_ rfl
  simp only [Tryd.ntmps26, List.size_toArray, List.length_cons, List.length_nil, Nat.reduceAdd, Nat.reduceSub, Array.replicate_succ, Array.replicate_zero, List.push_toArray, List.append_toArray, List.nil_append, List.cons_append]
  gi_wp2
  refine range_gives (gf := gf) rfl HE.out HS.out (fun _ => rfl) (by simp) (fun _ => False) (fun k h => .inr (HC.out k h)) (fun _ h => h.elim) (Fills w) (fun _ _ _ _ => False) (Fills.bides w) (fun _ _ _ _ _ _ h _ _ _ => h) ?start ?round ?done ?stop
  case start => exact ⟨.slice none 0 0, Boxed.new w _ _, fun h => h, World.ownsRow_nil _ _ _ _, by simp [Value.ownBlock], fun _ h => h.elim, (Below.refl _ _).alloc (Nat.le_refl _) _⟩
  case stop =>
    rintro D c M pre W _ _ _ h _
    exact h.elim
  case done =>
    rintro D M W hD hDW hM ⟨v, hv⟩ hdef
    have hc := hv.box.cell
    have HV := Lib.hid hv
    clear hv
    dsimp only
    gi_wp2
    refine leave_marks [D] W (by simp) (by simpa using hdef) (fun W' h1 h2 h3 h4 h5 => ⟨_, results_tmp rfl _ _ _, ?_⟩)
    have hv := HV.out
    have hrow : W'.ownsRow w.heap.size 3 1 v (L.map (·.1)).length ((L.map (·.1)).map (Value.int .i64)) := by
      have := World.ownsRow.same hv.row (w' := W') (fun g hg _ => h5 g (by simp; rintro rfl; exact hv.off _ hg hM))
      simpa [Function.comp_def] using this
    obtain ⟨a, c, rfl, hr, hc1, hc2⟩ := owns_row hrow
    refine ⟨a, c, rfl, hr, hc1, hc2, hv.bel.trans ⟨h1, h2, h3, by omega, fun k hk => h5 k ?_⟩⟩
    simp at hD ⊢
    omega
  case round =>
    intro l M pre x W hl hM hlt hpre hf
    obtain ⟨q, r⟩ := x
    have hlen : pre.length + 1 ≤ 1000 := by have := hpre.length_le; simp at this; omega
    have HF := Lib.hid hf
    have hz := HF.out.elim fun _ h => h.bel.size
    clear hf hpre
    dsimp only [encC]
    gi_wp2
    refine ⟨⟨(Below.refl _ _).alloc hz _, fun i _ hi => Below.heap_alloc _ _ _ hi⟩, fun o => ?_⟩
    obtain ⟨V, hV⟩ : ∃ V, V = (W.alloc (.cells #[.int .i64 q, .int .i64 r] 46)).putObj l o := ⟨_, rfl⟩
    rw [← hV]
    have hb2 : Below w.heap.size W V := by rw [hV]; exact ((Below.refl _ _).alloc hz _).trans (below_turned _ (by simp at hl; omega))
    have hs2 : ∀ i, i < W.heap.size → i ≠ l → V.heap[i]? = W.heap[i]? := fun i hi hn => by rw [hV]; exact (World.putObj_heap_other hn).trans (Below.heap_alloc _ _ _ hi)
    obtain ⟨v, hv⟩ := Fills.bides w M M pre W V HF.out hb2 (fun i hi hn => hs2 i hi (fun e => hn (e ▸ hM))) (fun i hi => .inl hi)
    have e0 : V.cell? ⟨W.heap.size, 0, none⟩ = some (.int .i64 q) := by
      rw [hV, World.cell?_of_block (a := ⟨W.heap.size, 0, none⟩) (World.putObj_heap_other (w := W.alloc _) (k := W.heap.size) (by omega))]
      simp [go_sem]
    have hc := hv.box.cell
    have hzV := hv.bel.size
    have hrow := hv.row
    have HV := Lib.hid hv
    clear hV hb2 hs2 hv
    gi_wp2_with (gi_at_builtin; refine listIn_append_lies _ rfl _ _ 25 rfl w.heap.size 3 i0 (.int .i64 0) 1 8 Tryd.underlying25 hi hz0 hz1 hz2 rfl (by decide) _ _ _ rfl (hrow.alloc _) ⟨V.heap.size, 0, none⟩ 1 1 [.int .i64 q] rfl rfl (cell_one_new _ _ _) (by simp [Value.oneCell']) (by decide) (by unfold maxLen; omega) (by omega) (by simp; omega) (V.heap.size + 1) (by simp) ?_; intro g cap w1 hown hgrow hat _; have hbx := (HV.out.box.alloc _).kept hgrow (HV.out.box.not_row (by decide) HV.out.row); have hc1 := hbx.cell; have hf1 := hbx.frozen)
    exact filled HV.out hown hgrow hat hbx
end Go.Proofs.YtlmaeppckaempaaDoor
