/-
  The reference's Part: the numbers of a class gone through, one by one.
-/
import Derived.Test.YtegggfghocicaaaLsRMove
namespace Go.Proofs.Ytegggfghocicaaa
open Go.RowKit

/-- A slice of one's own. -/
def tOne (base : Nat) (p : Sl) (zs : List Int) : Thing :=
  ⟨fun b => ∃ x, p.a = some x ∧ x.block = b, fun w => w.ownsRow base 3 1 (.slice p.a p.n p.c) p.n (zs.map (Value.int .i64)), fun _ _ h _ hs => World.ownsRow.same h (fun g hg _ => hs g (by
    rw [ownBlock_slice] at hg
    cases hx : p.a with
    | none => rw [hx] at hg; cases hg
    | some x =>
      rw [hx] at hg
      simp at hg
      exact ⟨x, rfl, hg⟩))⟩
structure PtR (w wr : World) (R : Nat → Option Thing) (d : Nat) (u V : Nat → Sl) (G : Nat → List Int) (p : Sl) (zs : List Int) : Prop where
  lst : Lst w.heap.size w wr R d V G
  part : R 4 = some (tOne w.heap.size p zs)
  ubox : R 3 = some (tBox w.heap.size u)
  res8 : R 2 = some (tBox (w.heap.size + 1) noSl)
section
variable {w wr w2 : World} {R : Nat → Option Thing} {d k : Nat} {u V : Nat → Sl} {G : Nat → List Int} {p s : Sl} {zs xs : List Int} {o : Obj}
theorem PtR.own (h : PtR w wr R d u V G p zs) : wr.ownsRow w.heap.size 3 1 (.slice p.a p.n p.c) p.n (zs.map (Value.int .i64)) := (h.lst.res.ok 4 _ h.part).1
theorem PtR.ub (h : PtR w wr R d u V G p zs) : Box3 wr w.heap.size u := h.lst.res.box h.ubox
theorem PtR.b8 (h : PtR w wr R d u V G p zs) : Box3 wr (w.heap.size + 1) noSl := h.lst.res.box h.res8
theorem PtR.len (h : PtR w wr R d u V G p zs) : p.n = zs.length := by have := h.own.1; simpa using this.symm
theorem PtR.row (h : PtR w wr R d u V G p zs) (o : Obj) : (wr.alloc o).ownsRow w.heap.size 3 1 (.slice p.a p.n p.c) p.n (zs.map (Value.int .i64)) :=
  World.ownsRow.same h.own (fun _ _ hlt => Below.heap_alloc _ _ _ hlt)
/-- Not in: appended to the class. -/
theorem PtR.no (h : PtR w wr R d u V G p zs) (hk : k < 3) (hc : Catted (wr.alloc o) w.heap.size (.slice (V k).a (V k).n (V k).c) s xs w2) :
    ∃ R', PtR w (w2.setCell ⟨d, k, none⟩ (.slice s.a s.n s.c)) R' d u (upd V k s) (upd G k xs) p zs := by
  obtain ⟨R', hL, hK⟩ := h.lst.cat hk hc
  exact ⟨R', hL, (hK 4 (by decide)).trans h.part, (hK 3 (by decide)).trans h.ubox, (hK 2 (by decide)).trans h.res8⟩
/-- In: appended to those that are parted. -/
theorem PtR.yes (h : PtR w wr R d u V G p zs) (hc : Catted (wr.alloc o) w.heap.size (.slice p.a p.n p.c) s xs w2) : ∃ R', PtR w w2 R' d u V G s xs := by
  have hs : (wr.alloc o).heap.size = wr.heap.size + 1 := by simp
  have R1 := h.lst.res.change (w' := w2) h.lst.big h.part (hc.grown.os.trans rfl) (hc.grown.tape.trans rfl) (hc.grown.output.trans rfl) (by have := hc.grown.size; omega) (fun b hb hbk => by
    refine (hc.grown.block b (by omega) (fun e => hbk ?_)).trans (Below.heap_alloc _ _ _ hb)
    rw [ownBlock_slice] at e
    cases hx : p.a with
    | none => rw [hx] at e; cases e
    | some x =>
      rw [hx] at e
      simp at e
      exact ⟨x, hx, e.symm⟩) (tOne w.heap.size s xs) hc.own (fun b ⟨x, hx, e⟩ => by
    subst e
    refine ⟨?_, (own_block hc.own hx).2⟩
    rcases hc.lies x hx with e | e
    · left
      rw [ownBlock_slice] at e
      cases hy : p.a with
      | none => rw [hy] at e; cases e
      | some y =>
        rw [hy] at e
        simp at e
        exact ⟨y, hy, e⟩
    · right
      omega)
  refine ⟨_, ⟨R1, ?_, ?_, by have := h.lst.big; have := hc.grown.size; omega⟩, upd_same _ _ _, ?_, ?_⟩
  · rw [upd_other _ _ (by decide)]; exact h.lst.own
  · rw [upd_other _ _ (by decide)]; exact h.lst.box
  · rw [upd_other _ _ (by decide)]; exact h.ubox
  · rw [upd_other _ _ (by decide)]; exact h.res8
theorem PtR.out (h : PtR w wr R d u V G p zs) : ∀ W, W = put3 wr (w.heap.size + 1) V → PartOut w G zs 0 (.returned (.tuple #[(.agg #[.slice (V 0).a (V 0).n (V 0).c, .slice (V 1).a (V 1).n (V 1).c, .slice (V 2).a (V 2).n (V 2).c]), .slice p.a p.n p.c, .int .i64 0])) W := by
  rintro W rfl
  have R1 := h.lst.res.put h.lst.big h.res8 V
  have O := R1.own (r := 0) (by rw [upd_other _ _ (by decide)]; exact h.lst.own)
  have P := (R1.ok 4 (tOne w.heap.size p zs) (by rw [upd_other _ _ (by decide)]; exact h.part)).1
  obtain ⟨a1, c1, e1, r1, l1, m1⟩ := owns_row P
  simp only [Value.slice.injEq, true_and] at e1
  obtain ⟨rfl, rfl⟩ := e1
  exact ⟨V, p, rfl, O.l3, ⟨r1, l1, m1⟩, R1.bel⟩
end
/-- The class's slice is set to none; nothing is parted yet. -/
theorem ptr_start {w w1 : World} {u v : Nat → Sl} {f : Nat → List Int} {k : Nat} (hk : k < 3) (ho : Own3 w1 ((w.alloc (.cells #[.slice (u 0).a (u 0).n (u 0).c, .slice (u 1).a (u 1).n (u 1).c, .slice (u 2).a (u 2).n (u 2).c] 24)).alloc (.cells #[.slice none 0 0, .slice none 0 0, .slice none 0 0] 24)).heap.size v f)
    (hb : Below ((w.alloc (.cells #[.slice (u 0).a (u 0).n (u 0).c, .slice (u 1).a (u 1).n (u 1).c, .slice (u 2).a (u 2).n (u 2).c] 24)).alloc (.cells #[.slice none 0 0, .slice none 0 0, .slice none 0 0] 24)).heap.size ((w.alloc (.cells #[.slice (u 0).a (u 0).n (u 0).c, .slice (u 1).a (u 1).n (u 1).c, .slice (u 2).a (u 2).n (u 2).c] 24)).alloc (.cells #[.slice none 0 0, .slice none 0 0, .slice none 0 0] 24)) w1) :
    ∃ R, PtR w (w1.alloc (.cells #[.slice (upd v k ⟨none, 0, 0⟩ 0).a (upd v k ⟨none, 0, 0⟩ 0).n (upd v k ⟨none, 0, 0⟩ 0).c, .slice (upd v k ⟨none, 0, 0⟩ 1).a (upd v k ⟨none, 0, 0⟩ 1).n (upd v k ⟨none, 0, 0⟩ 1).c, .slice (upd v k ⟨none, 0, 0⟩ 2).a (upd v k ⟨none, 0, 0⟩ 2).n (upd v k ⟨none, 0, 0⟩ 2).c] 24)) R w1.heap.size u (upd v k ⟨none, 0, 0⟩) (upd f k []) ⟨none, 0, 0⟩ [] := by
  have hs : w.heap.size ≤ w1.heap.size := by have := hb.size; simp at this; omega
  have R1 := (Res.none_ w w.heap.size).boxed (Nat.le_refl _) u 3
  have R2 := R1.boxed (by simp) noSl 2
  have R3 := (R2.next (by simp; omega) hb)
  have ho' : Own3 w1 w.heap.size (upd v k ⟨none, 0, 0⟩) (upd f k []) := by
    refine ⟨fun j hj => ?_, fun i j hi hj hij x y hx hy => ?_⟩
    · by_cases e : j = k
      · subst e
        rw [upd_same, upd_same]
        exact World.ownsRow_nil _ _ _ _
      · rw [upd_other _ _ e, upd_other _ _ e]
        exact (ho.less (by simp; omega)).own j hj
    · by_cases e : i = k
      · subst e
        rw [upd_same] at hx
        cases hx
      · by_cases e' : j = k
        · subst e'
          rw [upd_same] at hy
          cases hy
        · rw [upd_other _ _ e] at hx
          rw [upd_other _ _ e'] at hy
          exact ho.apart i j hi hj hij x y hx hy
  have R4 := ((R2.add (by simp; omega) hb 0 (tOwn w.heap.size (upd v k ⟨none, 0, 0⟩) (upd f k [])) ho' (by
    rintro b ⟨j, x, hj, hx, rfl⟩
    by_cases e : j = k
    · subst e
      rw [upd_same] at hx
      cases hx
    · rw [upd_other _ _ e] at hx
      exact ho.block j hj hx)).boxed hs (upd v k ⟨none, 0, 0⟩) 1).add (w' := w1.alloc (.cells #[.slice (upd v k ⟨none, 0, 0⟩ 0).a (upd v k ⟨none, 0, 0⟩ 0).n (upd v k ⟨none, 0, 0⟩ 0).c, .slice (upd v k ⟨none, 0, 0⟩ 1).a (upd v k ⟨none, 0, 0⟩ 1).n (upd v k ⟨none, 0, 0⟩ 1).c, .slice (upd v k ⟨none, 0, 0⟩ 2).a (upd v k ⟨none, 0, 0⟩ 2).n (upd v k ⟨none, 0, 0⟩ 2).c] 24)) (by simp; omega) (Below.refl _ _) 4 (tOne w.heap.size ⟨none, 0, 0⟩ []) (World.ownsRow_nil _ _ _ _) (by rintro b ⟨x, hx, _⟩; cases hx)
  refine ⟨_, ⟨R4, ?_, ?_, by simp; omega⟩, upd_same _ _ _, ?_, ?_⟩
  · rw [upd_other _ _ (by decide), upd_other _ _ (by decide), upd_same]
  · rw [upd_other _ _ (by decide), upd_same]
  · rw [upd_other _ _ (by decide), upd_other _ _ (by decide), upd_other _ _ (by decide), upd_other _ _ (by decide), upd_same]
  · rw [upd_other _ _ (by decide), upd_other _ _ (by decide), upd_other _ _ (by decide), upd_same]
    simp
theorem out_next {low high a : Int} {xs : List Int} {k n : Nat} (hl : xs.length = n) (hk : k < n) (ha : a = xs.getD k 0) (hi : isIn low high a = false) : outOf low high (xs.take (k + 1)) = outOf low high (xs.take k) ++ [a] ∧ inOf low high (xs.take (k + 1)) = inOf low high (xs.take k) := by
  rw [take_next hl hk, ← ha]
  exact ⟨by simp [outOf, hi], by simp [inOf, hi]⟩
theorem in_next {low high a : Int} {xs : List Int} {k n : Nat} (hl : xs.length = n) (hk : k < n) (ha : a = xs.getD k 0) (hi : isIn low high a = true) : inOf low high (xs.take (k + 1)) = inOf low high (xs.take k) ++ [a] ∧ outOf low high (xs.take (k + 1)) = outOf low high (xs.take k) := by
  rw [take_next hl hk, ← ha]
  exact ⟨by simp [inOf, hi], by simp [outOf, hi]⟩
theorem in_len {low high : Int} {xs : List Int} {k : Nat} : (inOf low high (xs.take k)).length ≤ k ∧ (outOf low high (xs.take k)).length ≤ k := by
  have h3 := List.length_filter_le (fun a => !isIn low high a) (xs.take k)
  have h4 := List.length_filter_le (isIn low high) (xs.take k)
  have h5 : (xs.take k).length ≤ k := by simp; omega
  unfold inOf outOf
  omega

theorem rpart_bad (u : Nat → Sl) (k low high : Int) (w : World) (hk : isCl k = false) :
    Calls Try.prog 19 #[(.agg #[.slice (u 0).a (u 0).n (u 0).c, .slice (u 1).a (u 1).n (u 1).c, .slice (u 2).a (u 2).n (u 2).c]), .int .i64 k, .int .i64 low, .int .i64 high] w (PartOut w noLists [] 1) := by
  have hnone : (0 : Nat) ≤ maxLen := by unfold maxLen; omega
  rcases isCl_no hk with h | h
  · have d1 : decide (k < 0) = true := by simp; omega
    clear hk h
    go_enter Try.func19, Try.ntmps19
    go_wp2
    refine bodyPost_ret (v := .tuple #[(.agg #[.slice (noSl 0).a (noSl 0).n (noSl 0).c, .slice (noSl 1).a (noSl 1).n (noSl 1).c, .slice (noSl 2).a (noSl 2).n (noSl 2).c]), .slice none 0 0, .int .i64 1]) ?_ rfl ?_
    rotate_left
    · exact ⟨noSl, ⟨none, 0, 0⟩, rfl, L3.none_ _ _, ⟨Row.none_ _ _, Nat.le_refl _, hnone⟩, two_below _ _ _⟩
    simp [results, Try.results19, go_sem, noSl]
  · have d1 : decide (k < 0) = false := by simp; omega
    have d2 : decide (2 < k) = true := by simp; omega
    clear hk h
    go_enter Try.func19, Try.ntmps19
    go_wp2
    refine bodyPost_ret (v := .tuple #[(.agg #[.slice (noSl 0).a (noSl 0).n (noSl 0).c, .slice (noSl 1).a (noSl 1).n (noSl 1).c, .slice (noSl 2).a (noSl 2).n (noSl 2).c]), .slice none 0 0, .int .i64 1]) ?_ rfl ?_
    rotate_left
    · exact ⟨noSl, ⟨none, 0, 0⟩, rfl, L3.none_ _ _, ⟨Row.none_ _ _, Nat.le_refl _, hnone⟩, two_below _ _ _⟩
    simp [results, Try.results19, go_sem, noSl]
set_option maxHeartbeats 1000000 in
theorem rpart_ok0 (B : Nat) (u : Nat → Sl) (f : Nat → List Int) (low high : Int) (w : World) (h : L3 w B u f) (hB : B ≤ w.heap.size) (hn : ∀ j, j < 3 → (u j).n ≤ 2000000) :
    Calls Try.prog 19 #[(.agg #[.slice (u 0).a (u 0).n (u 0).c, .slice (u 1).a (u 1).n (u 1).c, .slice (u 2).a (u 2).n (u 2).c]), .int .i64 0, .int .i64 low, .int .i64 high] w (PartOut w (upd f 0 (outOf low high (f 0))) (inOf low high (f 0)) 0) := by
  have HL := Lib.hid h
  have HN := Lib.hid hn
  have hun := hn 0 (by decide)
  have HUL := Lib.hid (h.len 0 (by decide))
  clear h hn
  go_enter Try.func19, Try.ntmps19
  go_wp2_with fail
  have b0 := two_below w (.cells #[.slice (u 0).a (u 0).n (u 0).c, .slice (u 1).a (u 1).n (u 1).c, .slice (u 2).a (u 2).n (u 2).c] 24) (.cells #[.slice none 0 0, .slice none 0 0, .slice none 0 0] 24)
  refine (rown_any B u f _ (HL.out.over b0 hB) (by simp; omega) HN.out).mono ?_
  rintro e w1 ⟨v, rfl, ho, hb⟩
  obtain ⟨R0, hM⟩ := ptr_start (k := 0) (by decide) ho hb
  have HM := Lib.hid hM
  clear b0 ho hb hM
  go_wp2
  obtain ⟨A, hA0⟩ : ∃ A, (u 0).a = A := ⟨_, rfl⟩
  rw [hA0]
  have HA0 := Lib.hid hA0
  clear hA0
  go_loopw [12, 13, 14] (fun x y _ wr => ∃ (q : Nat) (V : Nat → Sl) (p : Sl) (R : Nat → Option Thing), q ≤ (u 0).n ∧ x = .slice p.a p.n p.c ∧ y = .int .i64 q ∧ Hid (PtR w wr R w1.heap.size u V (upd f 0 (outOf low high ((f 0).take q))) p (inOf low high ((f 0).take q)))) (fun _ y _ _ => (u 0).n - (intOf y).toNat)
  case atStart => exact ⟨0, _, ⟨none, 0, 0⟩, R0, Nat.zero_le _, rfl, rfl, HM⟩
  case round =>
    obtain ⟨q, V, p, R, hq, rfl, rfl, HC⟩ := hrel
    have XU := HC.out.ub
    have c0 := XU.cell 0 (by decide)
    rw [HA0.out] at c0
    have cl := XU.lt
    have XD := HC.out.lst.boxed
    have HFL := Lib.hid HUL.out.symm
    by_cases hlt : q < (u 0).n
    · have hrow := HC.out.lst.arg (HL.out 0 (by decide)).1 hB
      rw [HA0.out] at hrow
      obtain ⟨b, off, rfl, hb, hcell⟩ := hrow.2 (by omega)
      have hq1 := hcell q hlt
      obtain ⟨a, ha⟩ : ∃ a, a = (f 0).getD q 0 := ⟨_, rfl⟩
      rw [← ha] at hq1
      have HAA := Lib.hid ha
      have hbw : b < wr.heap.size := by have := HC.out.lst.big; omega
      have hbig := HC.out.lst.big
      have hlen := in_len (low := low) (high := high) (xs := f 0) (k := q)
      have hpn : p.n + 1 ≤ 4000000 := by have := HC.out.len; omega
      have hVn : (V 0).n + 1 ≤ 4000000 := by
        have := HC.out.lst.len (k := 0) (by decide)
        rw [upd_same] at this
        omega
      have e0 := XD.cell 0 (by decide)
      have ef := XD.free 0
      have el := XD.lt
      clear hcell ha XU XD hlen hrow
      cases hi : isIn low high a
      · have hno : ¬ (low ≤ a ∧ a < high) := by simpa [isIn] using hi
        have HI := Lib.hid hi
        clear hi
        by_cases h1 : a < low
        · have g1 : decide (a < low) = true := by simp; omega
          clear hno h1
          go_wp2_with (at_builtin; refine list_cat rfl (.tmp 51) (.tmp 53) rfl rfl rfl (HC.out.lst.row (k := 0) _ (by decide)) (row_lit1 wr a) (by simp; omega) (by omega) ?_)
          intro p' cp' w2 hc
          obtain ⟨R2, h2⟩ := HC.out.no (k := 0) (by decide) hc
          obtain ⟨M2, _⟩ := HC.out.lst.mid (k := 0) (by decide) hc
          have k0 := M2.cell 0 (by decide)
          have kf := M2.free 0
          have kl := M2.lt
          have H2 := Lib.hid h2
          clear hc h2 M2 e0 ef el c0
          go_wp2
          go_roundw
          case rel =>
            have h2 := H2.out
            obtain ⟨e1, e2⟩ := out_next HFL.out hlt HAA.out HI.out
            rw [upd_same, upd_upd, ← e1, ← e2] at h2
            exact ⟨q + 1, _, p, R2, by omega, rfl, by go_num, Lib.hid h2⟩
          case measure => simp [intOf]; omega
        · have g1 : decide (a < low) = false := by simp; omega
          have g2 : decide (high ≤ a) = true := by simp; omega
          clear hno h1
          go_wp2_with (at_builtin; refine list_cat rfl (.tmp 51) (.tmp 53) rfl rfl rfl (HC.out.lst.row (k := 0) _ (by decide)) (row_lit1 wr a) (by simp; omega) (by omega) ?_)
          intro p' cp' w2 hc
          obtain ⟨R2, h2⟩ := HC.out.no (k := 0) (by decide) hc
          obtain ⟨M2, _⟩ := HC.out.lst.mid (k := 0) (by decide) hc
          have k0 := M2.cell 0 (by decide)
          have kf := M2.free 0
          have kl := M2.lt
          have H2 := Lib.hid h2
          clear hc h2 M2 e0 ef el c0
          go_wp2
          go_roundw
          case rel =>
            have h2 := H2.out
            obtain ⟨e1, e2⟩ := out_next HFL.out hlt HAA.out HI.out
            rw [upd_same, upd_upd, ← e1, ← e2] at h2
            exact ⟨q + 1, _, p, R2, by omega, rfl, by go_num, Lib.hid h2⟩
          case measure => simp [intOf]; omega
      · obtain ⟨h1, h2⟩ : low ≤ a ∧ a < high := by simpa [isIn] using hi
        have g1 : decide (a < low) = false := by simp; omega
        have g2 : decide (high ≤ a) = false := by simp; omega
        have HI := Lib.hid hi
        clear hi h1 h2
        go_wp2_with (at_builtin; refine list_cat rfl (.tmp 56) (.tmp 58) rfl rfl rfl (HC.out.row _) (row_lit1 wr a) (by simp; omega) (by omega) ?_)
        intro p' cp' w2 hc
        obtain ⟨R2, h2⟩ := HC.out.yes hc
        have H2 := Lib.hid h2
        clear hc h2 e0 ef el c0
        go_wp2
        go_roundw
        case rel =>
          have h2 := H2.out
          obtain ⟨e1, e2⟩ := in_next HFL.out hlt HAA.out HI.out
          rw [← e1, ← e2] at h2
          exact ⟨q + 1, V, ⟨p', p.n + 1, cp'⟩, R2, by omega, rfl, by go_num, Lib.hid h2⟩
        case measure => simp [intOf]; omega
    · obtain rfl : q = (u 0).n := by omega
      have hh := HC.out
      rw [List.take_of_length_le (by have := HFL.out; omega)] at hh
      have E := Lib.hid hh.out
      have X8 := HC.out.b8
      have b0 := XD.cell 0 (by decide)
      have b1 := XD.cell 1 (by decide)
      have b2 := XD.cell 2 (by decide)
      have bl := XD.lt
      have x0 := X8.cell 0 (by decide)
      have x1 := X8.cell 1 (by decide)
      have x2 := X8.cell 2 (by decide)
      have y0 := X8.free 0
      have y1 := X8.free 1
      have y2 := X8.free 2
      have xl := X8.lt
      clear hh X8 XD XU
      go_wp2
      refine bodyPost_ret (v := .tuple #[(.agg #[.slice (V 0).a (V 0).n (V 0).c, .slice (V 1).a (V 1).n (V 1).c, .slice (V 2).a (V 2).n (V 2).c]), .slice p.a p.n p.c, .int .i64 0]) ?_ rfl ?_
      rotate_left
      · exact E.out _ rfl
      simp [results, Try.results19, go_sem, x0, x1, x2]
set_option maxHeartbeats 1000000 in
theorem rpart_ok1 (B : Nat) (u : Nat → Sl) (f : Nat → List Int) (low high : Int) (w : World) (h : L3 w B u f) (hB : B ≤ w.heap.size) (hn : ∀ j, j < 3 → (u j).n ≤ 2000000) :
    Calls Try.prog 19 #[(.agg #[.slice (u 0).a (u 0).n (u 0).c, .slice (u 1).a (u 1).n (u 1).c, .slice (u 2).a (u 2).n (u 2).c]), .int .i64 1, .int .i64 low, .int .i64 high] w (PartOut w (upd f 1 (outOf low high (f 1))) (inOf low high (f 1)) 0) := by
  have HL := Lib.hid h
  have HN := Lib.hid hn
  have hun := hn 1 (by decide)
  have HUL := Lib.hid (h.len 1 (by decide))
  clear h hn
  go_enter Try.func19, Try.ntmps19
  go_wp2_with fail
  have b0 := two_below w (.cells #[.slice (u 0).a (u 0).n (u 0).c, .slice (u 1).a (u 1).n (u 1).c, .slice (u 2).a (u 2).n (u 2).c] 24) (.cells #[.slice none 0 0, .slice none 0 0, .slice none 0 0] 24)
  refine (rown_any B u f _ (HL.out.over b0 hB) (by simp; omega) HN.out).mono ?_
  rintro e w1 ⟨v, rfl, ho, hb⟩
  obtain ⟨R0, hM⟩ := ptr_start (k := 1) (by decide) ho hb
  have HM := Lib.hid hM
  clear b0 ho hb hM
  go_wp2
  obtain ⟨A, hA0⟩ : ∃ A, (u 1).a = A := ⟨_, rfl⟩
  rw [hA0]
  have HA0 := Lib.hid hA0
  clear hA0
  go_loopw [12, 13, 14] (fun x y _ wr => ∃ (q : Nat) (V : Nat → Sl) (p : Sl) (R : Nat → Option Thing), q ≤ (u 1).n ∧ x = .slice p.a p.n p.c ∧ y = .int .i64 q ∧ Hid (PtR w wr R w1.heap.size u V (upd f 1 (outOf low high ((f 1).take q))) p (inOf low high ((f 1).take q)))) (fun _ y _ _ => (u 1).n - (intOf y).toNat)
  case atStart => exact ⟨0, _, ⟨none, 0, 0⟩, R0, Nat.zero_le _, rfl, rfl, HM⟩
  case round =>
    obtain ⟨q, V, p, R, hq, rfl, rfl, HC⟩ := hrel
    have XU := HC.out.ub
    have c0 := XU.cell 1 (by decide)
    rw [HA0.out] at c0
    have cl := XU.lt
    have XD := HC.out.lst.boxed
    have HFL := Lib.hid HUL.out.symm
    by_cases hlt : q < (u 1).n
    · have hrow := HC.out.lst.arg (HL.out 1 (by decide)).1 hB
      rw [HA0.out] at hrow
      obtain ⟨b, off, rfl, hb, hcell⟩ := hrow.2 (by omega)
      have hq1 := hcell q hlt
      obtain ⟨a, ha⟩ : ∃ a, a = (f 1).getD q 0 := ⟨_, rfl⟩
      rw [← ha] at hq1
      have HAA := Lib.hid ha
      have hbw : b < wr.heap.size := by have := HC.out.lst.big; omega
      have hbig := HC.out.lst.big
      have hlen := in_len (low := low) (high := high) (xs := f 1) (k := q)
      have hpn : p.n + 1 ≤ 4000000 := by have := HC.out.len; omega
      have hVn : (V 1).n + 1 ≤ 4000000 := by
        have := HC.out.lst.len (k := 1) (by decide)
        rw [upd_same] at this
        omega
      have e0 := XD.cell 1 (by decide)
      have ef := XD.free 1
      have el := XD.lt
      clear hcell ha XU XD hlen hrow
      cases hi : isIn low high a
      · have hno : ¬ (low ≤ a ∧ a < high) := by simpa [isIn] using hi
        have HI := Lib.hid hi
        clear hi
        by_cases h1 : a < low
        · have g1 : decide (a < low) = true := by simp; omega
          clear hno h1
          go_wp2_with (at_builtin; refine list_cat rfl (.tmp 51) (.tmp 53) rfl rfl rfl (HC.out.lst.row (k := 1) _ (by decide)) (row_lit1 wr a) (by simp; omega) (by omega) ?_)
          intro p' cp' w2 hc
          obtain ⟨R2, h2⟩ := HC.out.no (k := 1) (by decide) hc
          obtain ⟨M2, _⟩ := HC.out.lst.mid (k := 1) (by decide) hc
          have k0 := M2.cell 1 (by decide)
          have kf := M2.free 1
          have kl := M2.lt
          have H2 := Lib.hid h2
          clear hc h2 M2 e0 ef el c0
          go_wp2
          go_roundw
          case rel =>
            have h2 := H2.out
            obtain ⟨e1, e2⟩ := out_next HFL.out hlt HAA.out HI.out
            rw [upd_same, upd_upd, ← e1, ← e2] at h2
            exact ⟨q + 1, _, p, R2, by omega, rfl, by go_num, Lib.hid h2⟩
          case measure => simp [intOf]; omega
        · have g1 : decide (a < low) = false := by simp; omega
          have g2 : decide (high ≤ a) = true := by simp; omega
          clear hno h1
          go_wp2_with (at_builtin; refine list_cat rfl (.tmp 51) (.tmp 53) rfl rfl rfl (HC.out.lst.row (k := 1) _ (by decide)) (row_lit1 wr a) (by simp; omega) (by omega) ?_)
          intro p' cp' w2 hc
          obtain ⟨R2, h2⟩ := HC.out.no (k := 1) (by decide) hc
          obtain ⟨M2, _⟩ := HC.out.lst.mid (k := 1) (by decide) hc
          have k0 := M2.cell 1 (by decide)
          have kf := M2.free 1
          have kl := M2.lt
          have H2 := Lib.hid h2
          clear hc h2 M2 e0 ef el c0
          go_wp2
          go_roundw
          case rel =>
            have h2 := H2.out
            obtain ⟨e1, e2⟩ := out_next HFL.out hlt HAA.out HI.out
            rw [upd_same, upd_upd, ← e1, ← e2] at h2
            exact ⟨q + 1, _, p, R2, by omega, rfl, by go_num, Lib.hid h2⟩
          case measure => simp [intOf]; omega
      · obtain ⟨h1, h2⟩ : low ≤ a ∧ a < high := by simpa [isIn] using hi
        have g1 : decide (a < low) = false := by simp; omega
        have g2 : decide (high ≤ a) = false := by simp; omega
        have HI := Lib.hid hi
        clear hi h1 h2
        go_wp2_with (at_builtin; refine list_cat rfl (.tmp 56) (.tmp 58) rfl rfl rfl (HC.out.row _) (row_lit1 wr a) (by simp; omega) (by omega) ?_)
        intro p' cp' w2 hc
        obtain ⟨R2, h2⟩ := HC.out.yes hc
        have H2 := Lib.hid h2
        clear hc h2 e0 ef el c0
        go_wp2
        go_roundw
        case rel =>
          have h2 := H2.out
          obtain ⟨e1, e2⟩ := in_next HFL.out hlt HAA.out HI.out
          rw [← e1, ← e2] at h2
          exact ⟨q + 1, V, ⟨p', p.n + 1, cp'⟩, R2, by omega, rfl, by go_num, Lib.hid h2⟩
        case measure => simp [intOf]; omega
    · obtain rfl : q = (u 1).n := by omega
      have hh := HC.out
      rw [List.take_of_length_le (by have := HFL.out; omega)] at hh
      have E := Lib.hid hh.out
      have X8 := HC.out.b8
      have b0 := XD.cell 0 (by decide)
      have b1 := XD.cell 1 (by decide)
      have b2 := XD.cell 2 (by decide)
      have bl := XD.lt
      have x0 := X8.cell 0 (by decide)
      have x1 := X8.cell 1 (by decide)
      have x2 := X8.cell 2 (by decide)
      have y0 := X8.free 0
      have y1 := X8.free 1
      have y2 := X8.free 2
      have xl := X8.lt
      clear hh X8 XD XU
      go_wp2
      refine bodyPost_ret (v := .tuple #[(.agg #[.slice (V 0).a (V 0).n (V 0).c, .slice (V 1).a (V 1).n (V 1).c, .slice (V 2).a (V 2).n (V 2).c]), .slice p.a p.n p.c, .int .i64 0]) ?_ rfl ?_
      rotate_left
      · exact E.out _ rfl
      simp [results, Try.results19, go_sem, x0, x1, x2]
set_option maxHeartbeats 1000000 in
theorem rpart_ok2 (B : Nat) (u : Nat → Sl) (f : Nat → List Int) (low high : Int) (w : World) (h : L3 w B u f) (hB : B ≤ w.heap.size) (hn : ∀ j, j < 3 → (u j).n ≤ 2000000) :
    Calls Try.prog 19 #[(.agg #[.slice (u 0).a (u 0).n (u 0).c, .slice (u 1).a (u 1).n (u 1).c, .slice (u 2).a (u 2).n (u 2).c]), .int .i64 2, .int .i64 low, .int .i64 high] w (PartOut w (upd f 2 (outOf low high (f 2))) (inOf low high (f 2)) 0) := by
  have HL := Lib.hid h
  have HN := Lib.hid hn
  have hun := hn 2 (by decide)
  have HUL := Lib.hid (h.len 2 (by decide))
  clear h hn
  go_enter Try.func19, Try.ntmps19
  go_wp2_with fail
  have b0 := two_below w (.cells #[.slice (u 0).a (u 0).n (u 0).c, .slice (u 1).a (u 1).n (u 1).c, .slice (u 2).a (u 2).n (u 2).c] 24) (.cells #[.slice none 0 0, .slice none 0 0, .slice none 0 0] 24)
  refine (rown_any B u f _ (HL.out.over b0 hB) (by simp; omega) HN.out).mono ?_
  rintro e w1 ⟨v, rfl, ho, hb⟩
  obtain ⟨R0, hM⟩ := ptr_start (k := 2) (by decide) ho hb
  have HM := Lib.hid hM
  clear b0 ho hb hM
  go_wp2
  obtain ⟨A, hA0⟩ : ∃ A, (u 2).a = A := ⟨_, rfl⟩
  rw [hA0]
  have HA0 := Lib.hid hA0
  clear hA0
  go_loopw [12, 13, 14] (fun x y _ wr => ∃ (q : Nat) (V : Nat → Sl) (p : Sl) (R : Nat → Option Thing), q ≤ (u 2).n ∧ x = .slice p.a p.n p.c ∧ y = .int .i64 q ∧ Hid (PtR w wr R w1.heap.size u V (upd f 2 (outOf low high ((f 2).take q))) p (inOf low high ((f 2).take q)))) (fun _ y _ _ => (u 2).n - (intOf y).toNat)
  case atStart => exact ⟨0, _, ⟨none, 0, 0⟩, R0, Nat.zero_le _, rfl, rfl, HM⟩
  case round =>
    obtain ⟨q, V, p, R, hq, rfl, rfl, HC⟩ := hrel
    have XU := HC.out.ub
    have c0 := XU.cell 2 (by decide)
    rw [HA0.out] at c0
    have cl := XU.lt
    have XD := HC.out.lst.boxed
    have HFL := Lib.hid HUL.out.symm
    by_cases hlt : q < (u 2).n
    · have hrow := HC.out.lst.arg (HL.out 2 (by decide)).1 hB
      rw [HA0.out] at hrow
      obtain ⟨b, off, rfl, hb, hcell⟩ := hrow.2 (by omega)
      have hq1 := hcell q hlt
      obtain ⟨a, ha⟩ : ∃ a, a = (f 2).getD q 0 := ⟨_, rfl⟩
      rw [← ha] at hq1
      have HAA := Lib.hid ha
      have hbw : b < wr.heap.size := by have := HC.out.lst.big; omega
      have hbig := HC.out.lst.big
      have hlen := in_len (low := low) (high := high) (xs := f 2) (k := q)
      have hpn : p.n + 1 ≤ 4000000 := by have := HC.out.len; omega
      have hVn : (V 2).n + 1 ≤ 4000000 := by
        have := HC.out.lst.len (k := 2) (by decide)
        rw [upd_same] at this
        omega
      have e0 := XD.cell 2 (by decide)
      have ef := XD.free 2
      have el := XD.lt
      clear hcell ha XU XD hlen hrow
      cases hi : isIn low high a
      · have hno : ¬ (low ≤ a ∧ a < high) := by simpa [isIn] using hi
        have HI := Lib.hid hi
        clear hi
        by_cases h1 : a < low
        · have g1 : decide (a < low) = true := by simp; omega
          clear hno h1
          go_wp2_with (at_builtin; refine list_cat rfl (.tmp 51) (.tmp 53) rfl rfl rfl (HC.out.lst.row (k := 2) _ (by decide)) (row_lit1 wr a) (by simp; omega) (by omega) ?_)
          intro p' cp' w2 hc
          obtain ⟨R2, h2⟩ := HC.out.no (k := 2) (by decide) hc
          obtain ⟨M2, _⟩ := HC.out.lst.mid (k := 2) (by decide) hc
          have k0 := M2.cell 2 (by decide)
          have kf := M2.free 2
          have kl := M2.lt
          have H2 := Lib.hid h2
          clear hc h2 M2 e0 ef el c0
          go_wp2
          go_roundw
          case rel =>
            have h2 := H2.out
            obtain ⟨e1, e2⟩ := out_next HFL.out hlt HAA.out HI.out
            rw [upd_same, upd_upd, ← e1, ← e2] at h2
            exact ⟨q + 1, _, p, R2, by omega, rfl, by go_num, Lib.hid h2⟩
          case measure => simp [intOf]; omega
        · have g1 : decide (a < low) = false := by simp; omega
          have g2 : decide (high ≤ a) = true := by simp; omega
          clear hno h1
          go_wp2_with (at_builtin; refine list_cat rfl (.tmp 51) (.tmp 53) rfl rfl rfl (HC.out.lst.row (k := 2) _ (by decide)) (row_lit1 wr a) (by simp; omega) (by omega) ?_)
          intro p' cp' w2 hc
          obtain ⟨R2, h2⟩ := HC.out.no (k := 2) (by decide) hc
          obtain ⟨M2, _⟩ := HC.out.lst.mid (k := 2) (by decide) hc
          have k0 := M2.cell 2 (by decide)
          have kf := M2.free 2
          have kl := M2.lt
          have H2 := Lib.hid h2
          clear hc h2 M2 e0 ef el c0
          go_wp2
          go_roundw
          case rel =>
            have h2 := H2.out
            obtain ⟨e1, e2⟩ := out_next HFL.out hlt HAA.out HI.out
            rw [upd_same, upd_upd, ← e1, ← e2] at h2
            exact ⟨q + 1, _, p, R2, by omega, rfl, by go_num, Lib.hid h2⟩
          case measure => simp [intOf]; omega
      · obtain ⟨h1, h2⟩ : low ≤ a ∧ a < high := by simpa [isIn] using hi
        have g1 : decide (a < low) = false := by simp; omega
        have g2 : decide (high ≤ a) = false := by simp; omega
        have HI := Lib.hid hi
        clear hi h1 h2
        go_wp2_with (at_builtin; refine list_cat rfl (.tmp 56) (.tmp 58) rfl rfl rfl (HC.out.row _) (row_lit1 wr a) (by simp; omega) (by omega) ?_)
        intro p' cp' w2 hc
        obtain ⟨R2, h2⟩ := HC.out.yes hc
        have H2 := Lib.hid h2
        clear hc h2 e0 ef el c0
        go_wp2
        go_roundw
        case rel =>
          have h2 := H2.out
          obtain ⟨e1, e2⟩ := in_next HFL.out hlt HAA.out HI.out
          rw [← e1, ← e2] at h2
          exact ⟨q + 1, V, ⟨p', p.n + 1, cp'⟩, R2, by omega, rfl, by go_num, Lib.hid h2⟩
        case measure => simp [intOf]; omega
    · obtain rfl : q = (u 2).n := by omega
      have hh := HC.out
      rw [List.take_of_length_le (by have := HFL.out; omega)] at hh
      have E := Lib.hid hh.out
      have X8 := HC.out.b8
      have b0 := XD.cell 0 (by decide)
      have b1 := XD.cell 1 (by decide)
      have b2 := XD.cell 2 (by decide)
      have bl := XD.lt
      have x0 := X8.cell 0 (by decide)
      have x1 := X8.cell 1 (by decide)
      have x2 := X8.cell 2 (by decide)
      have y0 := X8.free 0
      have y1 := X8.free 1
      have y2 := X8.free 2
      have xl := X8.lt
      clear hh X8 XD XU
      go_wp2
      refine bodyPost_ret (v := .tuple #[(.agg #[.slice (V 0).a (V 0).n (V 0).c, .slice (V 1).a (V 1).n (V 1).c, .slice (V 2).a (V 2).n (V 2).c]), .slice p.a p.n p.c, .int .i64 0]) ?_ rfl ?_
      rotate_left
      · exact E.out _ rfl
      simp [results, Try.results19, go_sem, x0, x1, x2]
theorem rpart_ok (B : Nat) (u : Nat → Sl) (f : Nat → List Int) (k : Nat) (hk : k < 3) (low high : Int) (w : World) (h : L3 w B u f) (hB : B ≤ w.heap.size) (hn : ∀ j, j < 3 → (u j).n ≤ 2000000) :
    Calls Try.prog 19 #[(.agg #[.slice (u 0).a (u 0).n (u 0).c, .slice (u 1).a (u 1).n (u 1).c, .slice (u 2).a (u 2).n (u 2).c]), .int .i64 k, .int .i64 low, .int .i64 high] w (PartOut w (upd f k (outOf low high (f k))) (inOf low high (f k)) 0) := by
  rcases (show k = 0 ∨ k = 1 ∨ k = 2 by omega) with rfl | rfl | rfl
  · exact rpart_ok0 B u f low high w h hB hn
  · exact rpart_ok1 B u f low high w h hB hn
  · exact rpart_ok2 B u f low high w h hB hn
end Go.Proofs.Ytegggfghocicaaa
