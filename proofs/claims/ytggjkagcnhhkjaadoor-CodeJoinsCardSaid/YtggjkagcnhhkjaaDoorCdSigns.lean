/-
  The signs: what the map holds; find, kindOf: a sign by its kind, a kind by its sign.
-/
import Derived.Test.YtggjkagcnhhkjaaDoorRows
import Derived.Test.YtggjkagcnhhkjaaDoorCdP3
import Derived.Maps.RangeWalk
import Derived.Deep.LoopGhost
import Derived.WalkKit
import Derived.RegionTactic
namespace Go.Proofs.YtggjkagcnhhkjaaDoor.Cd
open Go.Proofs.YtggjkagcnhhkjaaDoor Go.Proofs.YtggjkagcnhhkjaaDoor.Rt
open Go.RowKit Go.Maps
set_option maxRecDepth 100000

/-- 'm[k] = v' in a map's literal. -/
theorem wpList_insert_own {H : Type} {P : Program} (w : World) {ops : Array Oper} {rest : List Oper} {o : Oper} {a : Act} {Q : Exit → Act → World → Prop}
    (hg : o.guard = none) (m x v : Operand) (t : TypeId) (hop : o.op = Op.insert t m x v)
    (k e : TypeId) (K : Keyed P k) (ht : P.underlying t = some (.map k e)) (R : Value → Option (DataW H × List MemPlace)) (b n : Nat) (D : DataW H)
    (hm : a.eval m = .map (some b)) (hown : w.ownsMap P k R b n D) (hn : n < maxLen) (key val : Value) (kl : Lit) (hx : a.eval x = key) (hv : a.eval v = val) (hkey : keyOf P k key = some kl)
    (d : DataW H) (ps : List MemPlace) (hval : R val = some (d, ps))
    (hK : ∀ w', w'.ownsMap P k R b (n + 1) (D.put kl d) → w.grownBy w' (some b) → wpList P ops Q rest (a.put o.dst undef) w') :
    wpList P ops Q (o :: rest) a w := by
  refine wpList_plain hg fun K' hK' => ?_
  obtain ⟨w', hrun, r1, r2⟩ := hown.update K ht hn hkey hval
  unfold Oper.wp
  simp [execOp, hop, hm, hx, hv, hrun, Result.andThen]
  exact hK' _ _ (hK w' r1 r2)

/-- How a form reads. -/
def formR : Value → Option (DataW Unit × List MemPlace)
  | .agg c =>
    match c.toList with
    | [.int .i64 a, .int .i64 b] => some (.agg [.lit (.int .i64 a), .lit (.int .i64 b)], [])
    | _ => none
  | _ => none
def fd (a b : Int) : DataW Unit := .agg [.lit (.int .i64 a), .lit (.int .i64 b)]
theorem formR_inv {v : Value} {y : DataW Unit × List MemPlace} (h : formR v = some y) : ∃ a b, v = .agg #[.int .i64 a, .int .i64 b] ∧ y = (fd a b, []) := by
  unfold formR at h
  split at h
  · rename_i c
    split at h
    · rename_i a b e
      cases h
      obtain ⟨l⟩ := c
      have e' : l = [.int .i64 a, .int .i64 b] := e
      subst e'
      exact ⟨_, _, rfl, rfl⟩
    · cases h
  · cases h
theorem fd_inj {a b c d : Int} (h : fd a b = fd c d) : a = c ∧ b = d := by
  unfold fd at h
  simpa using h
def kl (r : Int) : Lit := .int .i32 r
def sD : DataW Unit := ((((((((DataW.map [] : DataW Unit).put (kl 110) (fd 0 2)).put (kl 8594) (fd 1 3)).put (kl 8592) (fd 2 3)).put (kl 8709) (fd 3 1)).put (kl 8801) (fd 4 2)).put (kl 35) (fd 5 1)).put (kl 215) (fd 6 0))
theorem sD_is : sD = .map [(kl 35, fd 5 1), (kl 110, fd 0 2), (kl 215, fd 6 0), (kl 8592, fd 2 3), (kl 8594, fd 1 3), (kl 8709, fd 3 1), (kl 8801, fd 4 2)] := by rfl
theorem sD_iff (r : Int) : Maps.has sD (kl r) = true ↔ isSign r := by
  rw [sD_is]
  simp [Maps.has, kl, Lit.sameKey, isSign]
  omega
theorem sD_has (r : Int) : Maps.has sD (kl r) = decide (isSign r) := by
  rw [Bool.eq_iff_iff, decide_eq_true_iff]
  exact sD_iff r
theorem sD_at {r : Int} (h : isSign r) (z : DataW Unit) : sD.atKey (kl r) z = fd (kindR r) (many (kindR r)) := by
  rw [sD_is]
  rcases h with rfl | rfl | rfl | rfl | rfl | rfl | rfl <;> rfl
theorem sD_no {r : Int} (h : ¬ isSign r) (z : DataW Unit) : sD.atKey (kl r) z = z := by
  have h' := sD_has r
  rw [decide_eq_false h] at h'
  exact atKey_of_not_has h' z
theorem law : Keyed Tryd.prog 21 := int_keyed Tryd.underlying21
theorem zeroForm (w : World) : (zeroValue 39).run Tryd.prog w = .ok (.agg #[.int .i64 0, .int .i64 0]) w := by kernel_rfl

theorem signs_any (w : World) : Calls Tryd.prog 28 #[] w fun e w' => ∃ b, e = .returned (.map (some b)) ∧ w'.ownsMap Tryd.prog 21 formR b 7 sD ∧ Below w.heap.size w w' ∧ w.heap.size ≤ b := by
  have hmm := @run_makeMap Tryd.prog
  have ho := World.ownsMap_made w Tryd.prog 21 formR
  have hb := (Below.refl w.heap.size w).alloc (Nat.le_refl _) (.map #[] 0)
  go_enter Tryd.func28, Tryd.ntmps28
  go_wp2_with (refine wpList_insert_own _ rfl _ _ _ 54 rfl 21 39 law Tryd.underlying54 formR w.heap.size _ _ rfl ho (by decide) (.int .i32 _) (.agg #[.int .i64 _, .int .i64 _]) (kl _) (by rfl) (by rfl) (keyOf_int_mk Tryd.underlying21 (by decide)) (fd _ _) [] (by rfl) ?_; clear ho; intro w1 ho hgrow; replace hb := Below.grown hb hgrow hb.size (by intro j hj; cases hj; exact Nat.le_refl _); clear hgrow)
  go_ret
  exact ⟨_, rfl, ho, hb, Nat.le_refl _⟩

theorem _root_.Go.Proofs.YtggjkagcnhhkjaaDoor.Rt.Box.grownR {W W' : World} {b r : Nat} {vs : List Value} (h : Box W b vs) (hg : W.grownBy W' (some r)) (hne : b ≠ r) : Box W' b vs := h.same (hg.block b h.lt (by intro e; exact hne (Option.some.inj e))) hg.size
theorem _root_.Go.Proofs.YtggjkagcnhhkjaaDoor.Rt.Box.grownN {W W' : World} {b : Nat} {vs : List Value} (h : Box W b vs) (hg : W.grownBy W' none) : Box W' b vs := h.same (hg.block b h.lt (by intro e; cases e)) hg.size
def mkV (p : Int × Int) : Value := .agg #[.int .i64 p.1, .int .i64 p.2]
theorem invK (key : Value) (l : Lit) (h : keyOf Tryd.prog 21 key = some l) : ∃ x, key = Value.int .i32 x := by
  obtain ⟨x, e, _⟩ := Maps.keyOf_int_inv Tryd.underlying21 h
  exact ⟨x, e⟩
theorem invV (v : Value) (y : DataW Unit × List MemPlace) (h : formR v = some y) : ∃ c, v = mkV c := by
  obtain ⟨a, b, e, _⟩ := formR_inv h
  exact ⟨(a, b), e⟩
/-- What a step of the range tells. -/
theorem entry_is {x : Int} {c : Int × Int} {l : Lit} {y : DataW Unit × List MemPlace} (hk : keyOf Tryd.prog 21 (.int .i32 x) = some l) (hr : formR (mkV c) = some y) (hat : ∀ zd, sD.atKey l zd = y.1) : l = kl x ∧ isSign x ∧ c.1 = kindR x ∧ c.2 = many (kindR x) := by
  obtain ⟨x', e, el, _⟩ := Maps.keyOf_int_inv Tryd.underlying21 hk
  cases e
  have el' : l = kl x := el
  subst el'
  have h1 := has_true_of_atKey hat
  rw [sD_has] at h1
  have hs : isSign x := of_decide_eq_true h1
  have h2 := hat (.nil)
  rw [sD_at hs] at h2
  obtain ⟨a, b, e1, e2⟩ := formR_inv hr
  rw [e2] at h2
  obtain ⟨q1, q2⟩ := fd_inj h2
  unfold mkV at e1
  simp at e1
  exact ⟨rfl, hs, by rw [e1.1, q1], by rw [e1.2, q2]⟩

/-- No sign of those that came has this kind. -/
def Unmet (k : Int) (left : Lit → Bool) : Prop := ∀ x, isSign x → left (kl x) = false → kindR x ≠ k
theorem unmet_start (k : Int) : Unmet k (Maps.has sD) := by
  intro x hx h
  rw [sD_has, decide_eq_true hx] at h
  cases h
theorem unmet_step {k x : Int} {left : Lit → Bool} (h : Unmet k left) (hx : kindR x ≠ k) : Unmet k (fun z => left z && !z.sameKey (kl x)) := by
  intro y hy e
  cases hl : left (kl y) with
  | false => exact h y hy hl
  | true =>
    have e2 : (left (kl y) && !(kl y).sameKey (kl x)) = false := e
    rw [hl] at e2
    have e' : (kl y).sameKey (kl x) = true := by simpa using e2
    have : y = x := by simpa [kl, Lit.sameKey] using e'
    rw [this]
    exact hx
theorem unmet_all {k : Int} {left : Lit → Bool} (h : Unmet k left) (hl : ∀ l, left l = false) (hk : 0 ≤ k ∧ k ≤ 6) : False := by
  obtain ⟨h1, h2⟩ := kind_sign hk
  exact h _ h1 (hl _) h2
theorem sign_of_kind {x k : Int} (hx : isSign x) (h : kindR x = k) : x = signR k ∧ 0 ≤ k ∧ k ≤ 6 := by
  subst h
  have := sign_kind hx
  exact ⟨this.1.symm, this.2⟩
/-- A kind's sign and form, or that there is none. -/
def fB (k : Int) : Bool := decide (0 ≤ k ∧ k ≤ 6)
def fR (k : Int) : Int := if 0 ≤ k ∧ k ≤ 6 then signR k else 0
def fK (k : Int) : Int := if 0 ≤ k ∧ k ≤ 6 then k else 0
def fN (k : Int) : Int := if 0 ≤ k ∧ k ≤ 6 then many k else 0
theorem f_yes {k : Int} (h : 0 ≤ k ∧ k ≤ 6) : fB k = true ∧ fR k = signR k ∧ fK k = k ∧ fN k = many k := ⟨decide_eq_true h, if_pos h, if_pos h, if_pos h⟩
theorem f_no {k : Int} (h : ¬ (0 ≤ k ∧ k ≤ 6)) : fB k = false ∧ fR k = 0 ∧ fK k = 0 ∧ fN k = 0 := ⟨decide_eq_false h, if_neg h, if_neg h, if_neg h⟩
def FOut (w : World) (k : Int) (e : Ending) (w' : World) : Prop := e = .returned (.tuple #[.int .i32 (fR k), .agg #[.int .i64 (fK k), .int .i64 (fN k)], .bool (fB k)]) ∧ Below w.heap.size w w'
set_option maxHeartbeats 1000000 in
theorem find_any (k : Int) (w : World) : Calls Tryd.prog 19 #[.int .i64 k] w (FOut w k) := by
  have hX0 := Box.new w [.int .i64 0, .int .i64 0] 39
  have hb0 := (Below.refl w.heap.size w).alloc (Nat.le_refl _) (.cells [Value.int .i64 0, Value.int .i64 0].toArray 39)
  go_enter Tryd.func19, Tryd.ntmps19
  go_wp2_with fail
  refine (signs_any _).mono ?_
  rintro e w1 ⟨b, rfl, ho, hb1, hbb⟩
  replace hX0 := hX0.next hb1
  replace hb0 := hb0.trans (hb1.mono hb0.size)
  have hbb' : w.heap.size < b := by
    have : (w.alloc (.cells #[.int .i64 0, .int .i64 0] 39)).heap.size = w.heap.size + 1 := by simp
    omega
  have HB := Lib.hid (And.intro hX0 (And.intro hb0 hbb'))
  clear hX0 hb0 hb1 hbb hbb'
  go_wp2_with (first
    | (at_range; refine wpList_range_own _ rfl _ 54 rfl 21 39 law Tryd.underlying54 formR b 7 sD rfl ho ?_; intro w2 hrg hg2 hs2)
    | go_in)
  go_frame
  have hX := HB.out.1.grownN hg2
  have hb := Below.grown HB.out.2.1 hg2 HB.out.2.1.size (by intro j hj; cases hj)
  obtain ⟨r, hr⟩ : ∃ r, r = w1.heap.size := ⟨_, rfl⟩
  have hwr : w.heap.size < r := by rw [hr]; exact HB.out.1.lt
  rw [← hr] at hrg ⊢
  have H2 := Lib.hid (And.intro hX (And.intro hb (And.intro hrg hwr)))
  clear hX hb hrg hwr hr hg2 hs2 ho HB
  go_loopw [9] (fun _ wr => ∃ (left : Lit → Bool) (cnt : Nat), Hid (wr.ranges Tryd.prog 21 formR b r 7 sD left cnt ∧ Below w.heap.size w wr ∧ Box wr w.heap.size [.int .i64 0, .int .i64 0] ∧ Unmet k left))
    (fun _ wr => wr.rangeLeft b r)
  case atStart => exact ⟨_, _, Lib.hid ⟨H2.out.2.2.1, H2.out.2.1, H2.out.1, unmet_start k⟩⟩
  case round =>
    obtain ⟨left, cnt, HR⟩ := hrel
    go_wp2_with (first
      | (at_next; refine wpList_next_ranges _ rfl _ rfl 21 law formR (Value.int .i32) mkV invK invV b r 7 sD left cnt rfl HR.out.1 ?_ ?_)
      | go_in)
    · intro _ hl0
      by_cases hk : 0 ≤ k ∧ k ≤ 6
      · exact (unmet_all HR.out.2.2.2 hl0 hk).elim
      · obtain ⟨f1, f2, f3, f4⟩ := f_no hk
        have q0 := HR.out.2.2.1.cel 0 _ rfl
        have q1 := HR.out.2.2.1.cel 1 _ rfl
        have m0 := HR.out.2.2.1.free 0
        have m1 := HR.out.2.2.1.free 1
        have ql := HR.out.2.2.1.lt
        go_wp2
        have B2 := (HR.out.2.2.1.set 0 (.int .i64 0)).set 1 (.int .i64 0)
        have c0 := B2.cel 0 _ rfl
        have c1 := B2.cel 1 _ rfl
        refine bodyPost_ret (v := .tuple #[.int .i32 0, .agg #[.int .i64 0, .int .i64 0], .bool false]) (by simp [results, Tryd.results19, go_sem, c0, c1]) rfl ⟨?_, (HR.out.2.1.setCell (Nat.le_refl _) _).setCell (Nat.le_refl _) _⟩
        rw [f1, f2, f3, f4]
    · intro x c d l y1 y2 w3 cnt1 hky hlx hR hat hrg1 hlt hg3 hs3 hen
      obtain ⟨rfl, hsx, e1, e2⟩ := entry_is (c := (c, d)) (y := (y1, y2)) hky hR hat
      dsimp only at e1 e2
      subst e1 e2
      have hwr := H2.out.2.2.2
      have hX := HR.out.2.2.1.grownR hg3 (by omega)
      have hb := Below.grown HR.out.2.1 hg3 HR.out.2.1.size (by intro j hj; cases hj; omega)
      have hen' : Sem.run Tryd.prog (Instr.entry (Value.pointer (some { block := r, off := 0 }))) w3 = Result.ok (Value.tuple #[Value.int IntKind.i32 x, .agg #[.int .i64 (kindR x), .int .i64 (many (kindR x))]]) w3 := hen
      clear hen hky hR hat
      have HU := HR.out.2.2.2
      have HM := HR.out.1.left_eq
      have q0 := hX.cel 0 _ rfl
      have q1 := hX.cel 1 _ rfl
      have m0 := hX.free 0
      have m1 := hX.free 1
      have ql := hX.lt
      have HS := Lib.hid (And.intro hX (And.intro hb (And.intro hrg1 (And.intro hlt (And.intro HU (And.intro HM (And.intro hsx hwr)))))))
      clear hX hb hrg1 hlt HU HM hg3 hwr hsx HR hs3
      by_cases hk : kindR x = k
      · have hk' : (kindR x == k) = true := beq_iff_eq.2 hk
        go_wp2
        clear q0 q1 m0 m1 ql
        have HY := Lib.hid (Box.new w3 [.int .i64 k, .int .i64 (many k)] 39)
        have HX := Lib.hid (HS.out.1.next ((Below.refl _ _).alloc (Nat.le_refl _) (.cells [Value.int .i64 k, .int .i64 (many k)].toArray 39)))
        have HB := Lib.hid (HS.out.2.1.alloc HS.out.2.1.size (.cells [Value.int .i64 k, .int .i64 (many k)].toArray 39))
        have hs4 : (w3.alloc (.cells [Value.int .i64 k, .int .i64 (many k)].toArray 39)).heap.size = w3.heap.size + 1 := by simp
        obtain ⟨hsg, hk0⟩ := sign_of_kind HS.out.2.2.2.2.2.2.1 hk
        obtain ⟨f1, f2, f3, f4⟩ := f_yes hk0
        have hne : ¬ w.heap.size = w3.heap.size := by have := HS.out.1.lt; omega
        generalize w3.alloc (.cells #[Value.int .i64 k, .int .i64 (many k)] 39) = w4 at HY HX HB hs4 ⊢
        have q0 := HX.out.cel 0 _ rfl
        have q1 := HX.out.cel 1 _ rfl
        have m0 := HX.out.free 0
        have m1 := HX.out.free 1
        have y0 := HY.out.cel 0 _ rfl
        have y1 := HY.out.cel 1 _ rfl
        go_region
        have B2 := (HX.out.set 0 (.int .i64 k)).set 1 (.int .i64 (many k))
        have c0 := B2.cel 0 _ rfl
        have c1 := B2.cel 1 _ rfl
        go_wp2
        refine bodyPost_ret (v := .tuple #[.int .i32 x, .agg #[.int .i64 k, .int .i64 (many k)], .bool true]) (by simp [results, Tryd.results19, go_sem, c0, c1]) rfl ⟨?_, ((HB.out.setCell (Nat.le_refl _) _).setCell (Nat.le_refl _) _).trans ⟨rfl, rfl, rfl, Nat.le_refl _, fun _ _ => rfl⟩⟩
        rw [f1, f2, f3, f4, hsg]
      · have hk' : (kindR x == k) = false := beq_eq_false_iff_ne.2 hk
        go_wp2
        go_roundw
        case rel => exact ⟨_, cnt1, Lib.hid ⟨HS.out.2.2.1.alloc _, HS.out.2.1.alloc HS.out.2.1.size _, HS.out.1.next ((Below.refl _ _).alloc (Nat.le_refl _) _), unmet_step HS.out.2.2.2.2.1 hk⟩⟩
        case measure =>
          have e1 := (HS.out.2.2.1.alloc (.cells #[.int .i64 (kindR x), .int .i64 (many (kindR x))] 39)).left_eq
          have e2 := HS.out.2.2.2.2.2.1
          have e3 := HS.out.2.2.2.1
          omega
/-- A sign's kind. -/
def Panics (e : Ending) : Prop := e = .panicked [{ v := .iface 24 (.int .i64 7), recovered := false, goexit := false }]
def KOut (w : World) (r : Int) (e : Ending) (w' : World) : Prop := Below w.heap.size w w' ∧ ((isSign r ∧ e = .returned (.int .i64 (kindR r))) ∨ (¬ isSign r ∧ Panics e))
section
variable (w : World) {ops : Array Oper} {rest : List Oper} {o : Oper} {a : Act} {Q : Exit → Act → World → Prop}
theorem look_yes {r : Int} {b : Nat} (hg : o.guard = none) (m x : Operand) (hop : o.op = Op.lookup 54 m x true) (hm : a.eval m = .map (some b)) (ho : w.ownsMap Tryd.prog 21 formR b 7 sD) (hr : (Lit.int .i32 r).wf = true) (hx : a.eval x = .int .i32 r) (hs : isSign r)
    (hK : wpList Tryd.prog ops Q rest (a.put o.dst (.tuple #[.agg #[.int .i64 (kindR r), .int .i64 (many (kindR r))], .bool true])) w) : wpList Tryd.prog ops Q (o :: rest) a w :=
  wpList_lookup_own_ok w hg m x _ hop _ _ law Tryd.underlying54 formR (zeroForm w) (fd 0 0) [] rfl b 7 sD hm ho _ (kl r) hx (keyOf_int_mk Tryd.underlying21 hr) (fun v ps hv => by
    obtain ⟨c, d, e1, e2⟩ := formR_inv hv
    rw [sD_at hs] at e2
    obtain ⟨q1, q2⟩ := fd_inj (Prod.mk.inj e2).1
    subst e1 q1 q2
    rw [(sD_iff r).2 hs]
    exact hK)
theorem look_no {r : Int} {b : Nat} (hg : o.guard = none) (m x : Operand) (hop : o.op = Op.lookup 54 m x true) (hm : a.eval m = .map (some b)) (ho : w.ownsMap Tryd.prog 21 formR b 7 sD) (hr : (Lit.int .i32 r).wf = true) (hx : a.eval x = .int .i32 r) (hs : ¬ isSign r)
    (hK : wpList Tryd.prog ops Q rest (a.put o.dst (.tuple #[.agg #[.int .i64 0, .int .i64 0], .bool false])) w) : wpList Tryd.prog ops Q (o :: rest) a w :=
  wpList_lookup_own_ok w hg m x _ hop _ _ law Tryd.underlying54 formR (zeroForm w) (fd 0 0) [] rfl b 7 sD hm ho _ (kl r) hx (keyOf_int_mk Tryd.underlying21 hr) (fun v ps hv => by
    obtain ⟨c, d, e1, e2⟩ := formR_inv hv
    rw [sD_no hs] at e2
    obtain ⟨q1, q2⟩ := fd_inj (Prod.mk.inj e2).1
    subst e1 q1 q2
    have hf : Maps.has sD (kl r) = false := by rw [sD_has]; exact decide_eq_false hs
    rw [hf]
    exact hK)
end
theorem kind_any (r : Int) (w : World) (hr : (Lit.int .i32 r).wf = true) : Calls Tryd.prog 42 #[.int .i32 r] w (KOut w r) := by
  go_enter Tryd.func42, Tryd.ntmps42
  go_wp2_with fail
  refine (signs_any _).mono ?_
  rintro e w1 ⟨b, rfl, ho, hb1, hbb⟩
  have HW := Lib.hid (And.intro hb1 hr)
  clear hb1 hbb hr
  by_cases hs : isSign r
  · have HS := Lib.hid hs
    clear hs
    go_wp2_with (at_lookup; refine look_yes _ rfl _ _ rfl rfl ho HW.out.2 (by rfl) HS.out ?_)
    go_ret
    exact ⟨HW.out.1.alloc HW.out.1.size _, .inl ⟨HS.out, rfl⟩⟩
  · have HS := Lib.hid hs
    clear hs
    go_wp2_with (at_lookup; refine look_no _ rfl _ _ rfl rfl ho HW.out.2 (by rfl) HS.out ?_)
    exact ⟨rfl, HW.out.1.alloc HW.out.1.size _, .inr ⟨HS.out, rfl⟩⟩
end Go.Proofs.YtggjkagcnhhkjaaDoor.Cd
