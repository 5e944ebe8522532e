/-
  The reference's Push; what a walk holds that appends to a class of lists of its own.
-/
import Derived.Test.YtegggfghocicaaaLsHas
namespace Go.Proofs.Ytegggfghocicaaa
open Go.RowKit

/-- Lists of one's own and their box, beside other things. -/
structure Lst (base : Nat) (W wr : World) (R : Nat → Option Thing) (d : Nat) (V : Nat → Sl) (G : Nat → List Int) : Prop where
  res : Res base W wr R
  own : R 0 = some (tOwn base V G)
  box : R 1 = some (tBox d V)
  big : base ≤ wr.heap.size
section
variable {base d k : Nat} {W wr w2 : World} {R : Nat → Option Thing} {V : Nat → Sl} {G : Nat → List Int} {s : Sl} {xs : List Int} {o : Obj}
theorem Lst.drew (h : Lst base W wr R d V G) : Lst base W wr.drew R d V G := ⟨h.res.drewN 1, h.own, h.box, h.big⟩
theorem Lst.boxed (h : Lst base W wr R d V G) : Box3 wr d V := h.res.box h.box
theorem Lst.owns (h : Lst base W wr R d V G) : Own3 wr base V G := h.res.own h.own
theorem Lst.row (h : Lst base W wr R d V G) (o : Obj) (hk : k < 3) : (wr.alloc o).ownsRow base 3 1 (.slice (V k).a (V k).n (V k).c) (V k).n ((G k).map (Value.int .i64)) := (h.owns.alloc o).own k hk
theorem Lst.len (h : Lst base W wr R d V G) (hk : k < 3) : (V k).n = (G k).length := h.owns.l3.len k hk
theorem Lst.arg (h : Lst base W wr R d V G) {B n : Nat} {A : Option Addr} {ys : List Int} (hr : Row W B A n ys) (hB : B ≤ base) : Row wr B A n ys := hr.over h.res.bel hB
theorem Lst.mid (h : Lst base W wr R d V G) (hk : k < 3) (hc : Catted (wr.alloc o) base (.slice (V k).a (V k).n (V k).c) s xs w2) : Box3 w2 d V ∧ wr.heap.size + 1 ≤ w2.heap.size :=
  ⟨(h.res.catted (b0 := base) h.big h.own hk hc hc.own).box (r := 1) (by rw [upd_other _ _ (by decide)]; exact h.box), by have := hc.grown.size; simpa using this⟩
theorem Lst.cat (h : Lst base W wr R d V G) (hk : k < 3) (hc : Catted (wr.alloc o) base (.slice (V k).a (V k).n (V k).c) s xs w2) :
    ∃ R', Lst base W (w2.setCell ⟨d, k, none⟩ (.slice s.a s.n s.c)) R' d (upd V k s) (upd G k xs) ∧ ∀ r, 2 ≤ r → R' r = R r := by
  have hw : base ≤ w2.heap.size := by have := (h.mid hk hc).2; have := h.big; omega
  have R1 := h.res.catted (b0 := base) h.big h.own hk hc hc.own
  have R2 := R1.set hw (r := 1) (d := d) (k := k) (z := V) (by rw [upd_other _ _ (by decide)]; exact h.box) hk s
  refine ⟨_, ⟨R2, ?_, upd_same _ _ _, by simpa [World.setCell] using hw⟩, fun r hr => ?_⟩
  · rw [upd_other _ _ (by decide), upd_same]
  · rw [upd_other _ _ (by omega), upd_other _ _ (by omega)]
/-- The box is stored to the result's box. -/
theorem Lst.done (h : Lst base W wr R d V G) {r : Nat} (hr : 2 ≤ r) {b : Nat} {z : Nat → Sl} (hb : R r = some (tBox b z)) : L3 (put3 wr b V) (put3 wr b V).heap.size V G ∧ Below base W (put3 wr b V) := by
  have R1 := h.res.put h.big hb V
  exact ⟨(R1.own (r := 0) (by rw [upd_other _ _ (by omega)]; exact h.own)).l3, R1.bel⟩
end
theorem upd_nil {f : Nat → List Int} {k : Nat} {ys : List Int} : upd f k (f k ++ ys.take 0) = f := by
  funext j
  by_cases h : j = k
  · rw [h, upd_same]
    simp
  · exact upd_other _ _ h
theorem upd_push {f : Nat → List Int} {k q : Nat} {ys : List Int} {y : Int} {n : Nat} (hl : ys.length = n) (hq : q < n) (hy : y = ys.getD q 0) : upd (upd f k (f k ++ ys.take q)) k (upd f k (f k ++ ys.take q) k ++ [y]) = upd f k (f k ++ ys.take (q + 1)) := by
  rw [upd_same, upd_upd, take_next hl hq, ← hy, List.append_assoc]
/-- A value of lists of one's own was returned: its box, the result's box. -/
theorem lst_start {w w1 : World} {u v : Nat → Sl} {f : Nat → List Int} (ho : Own3 w1 ((w.alloc (.cells #[.slice (u 0).a (u 0).n (u 0).c, .slice (u 1).a (u 1).n (u 1).c, .slice (u 2).a (u 2).n (u 2).c] 24)).alloc (.cells #[.slice none 0 0, .slice none 0 0, .slice none 0 0] 24)).heap.size v f)
    (hb : Below ((w.alloc (.cells #[.slice (u 0).a (u 0).n (u 0).c, .slice (u 1).a (u 1).n (u 1).c, .slice (u 2).a (u 2).n (u 2).c] 24)).alloc (.cells #[.slice none 0 0, .slice none 0 0, .slice none 0 0] 24)).heap.size ((w.alloc (.cells #[.slice (u 0).a (u 0).n (u 0).c, .slice (u 1).a (u 1).n (u 1).c, .slice (u 2).a (u 2).n (u 2).c] 24)).alloc (.cells #[.slice none 0 0, .slice none 0 0, .slice none 0 0] 24)) w1) :
    ∃ R, Lst w.heap.size w (w1.alloc (.cells #[.slice (v 0).a (v 0).n (v 0).c, .slice (v 1).a (v 1).n (v 1).c, .slice (v 2).a (v 2).n (v 2).c] 24)) R w1.heap.size v f ∧ R 2 = some (tBox (w.heap.size + 1) noSl) ∧ R 3 = some (tBox w.heap.size u) := by
  have hs : w.heap.size ≤ w1.heap.size := by have := hb.size; simp at this; omega
  have R1 := (Res.none_ w w.heap.size).boxed (Nat.le_refl _) u 3
  have R2 := R1.boxed (by simp) noSl 2
  have R3 := (R2.copied (by simp; omega) ho hb 0).boxed hs v 1
  refine ⟨_, ⟨R3, ?_, upd_same _ _ _, by simp; omega⟩, ?_, ?_⟩
  · rw [upd_other _ _ (by decide), upd_same]
  · rw [upd_other _ _ (by decide), upd_other _ _ (by decide), upd_same]
    simp
  · rw [upd_other _ _ (by decide), upd_other _ _ (by decide), upd_other _ _ (by decide), upd_same]

theorem rpush_bad (u : Nat → Sl) (k : Int) (A : Option Addr) (n c : Nat) (w : World) (hk : isCl k = false) :
    Calls Try.prog 12 #[(.agg #[.slice (u 0).a (u 0).n (u 0).c, .slice (u 1).a (u 1).n (u 1).c, .slice (u 2).a (u 2).n (u 2).c]), .int .i64 k, .slice A n c] w (POut w noLists 1) := by
  rcases isCl_no hk with h | h
  · have d1 : decide (k < 0) = true := by simp; omega
    clear hk h
    go_enter Try.func12, Try.ntmps12
    go_wp2
    refine bodyPost_ret (v := .tuple #[(.agg #[.slice (noSl 0).a (noSl 0).n (noSl 0).c, .slice (noSl 1).a (noSl 1).n (noSl 1).c, .slice (noSl 2).a (noSl 2).n (noSl 2).c]), .int .i64 1]) ?_ rfl ⟨noSl, rfl, L3.none_ _ _, ?_⟩
    · simp [results, Try.results12, go_sem, noSl]
    · exact two_below _ _ _
  · have d1 : decide (k < 0) = false := by simp; omega
    have d2 : decide (2 < k) = true := by simp; omega
    clear hk h
    go_enter Try.func12, Try.ntmps12
    go_wp2
    refine bodyPost_ret (v := .tuple #[(.agg #[.slice (noSl 0).a (noSl 0).n (noSl 0).c, .slice (noSl 1).a (noSl 1).n (noSl 1).c, .slice (noSl 2).a (noSl 2).n (noSl 2).c]), .int .i64 1]) ?_ rfl ⟨noSl, rfl, L3.none_ _ _, ?_⟩
    · simp [results, Try.results12, go_sem, noSl]
    · exact two_below _ _ _
theorem rpush_ok0 (B : Nat) (u : Nat → Sl) (f : Nat → List Int) (A : Option Addr) (n c : Nat) (ys : List Int) (w : World) (h : L3 w B u f) (hB : B ≤ w.heap.size) (hn : ∀ j, j < 3 → (u j).n ≤ 2000000) (hr : Row w B A n ys) (hn' : n ≤ 1000000) :
    Calls Try.prog 12 #[(.agg #[.slice (u 0).a (u 0).n (u 0).c, .slice (u 1).a (u 1).n (u 1).c, .slice (u 2).a (u 2).n (u 2).c]), .int .i64 0, .slice A n c] w (POut w (upd f 0 (f 0 ++ ys)) 0) := by
  have HL := Lib.hid h
  have HN := Lib.hid hn
  have HR := Lib.hid hr
  have HY := Lib.hid hr.1
  have hfl : (f 0).length ≤ 2000000 := by have := h.len 0 (by decide); have := hn 0 (by decide); omega
  clear h hn hr
  go_enter Try.func12, Try.ntmps12
  go_wp2_with fail
  have b0 := two_below w (.cells #[.slice (u 0).a (u 0).n (u 0).c, .slice (u 1).a (u 1).n (u 1).c, .slice (u 2).a (u 2).n (u 2).c] 24) (.cells #[.slice none 0 0, .slice none 0 0, .slice none 0 0] 24)
  refine (rown_any B u f _ (HL.out.over b0 hB) (by simp; omega) HN.out).mono ?_
  rintro e w1 ⟨v, rfl, ho, hb⟩
  obtain ⟨R0, hL0, hR0, _⟩ := lst_start ho hb
  have HS := Lib.hid (And.intro hL0 hR0)
  clear ho hb b0 hL0 hR0
  go_wp2
  generalize w1.alloc (.cells #[.slice (v 0).a (v 0).n (v 0).c, .slice (v 1).a (v 1).n (v 1).c, .slice (v 2).a (v 2).n (v 2).c] 24) = w2 at HS ⊢
  generalize w1.heap.size = d at HS ⊢
  go_loopw [9] (fun i wr => ∃ (q : Nat) (V : Nat → Sl) (R : Nat → Option Thing), q ≤ n ∧ i = .int .i64 q ∧ Hid (Lst w.heap.size w wr R d V (upd f 0 (f 0 ++ ys.take q)) ∧ R 2 = some (tBox (w.heap.size + 1) noSl))) (fun i _ => n - (intOf i).toNat)
  case atStart =>
    refine ⟨0, v, R0, Nat.zero_le _, rfl, ?_⟩
    rw [upd_nil]
    exact HS
  case round =>
    obtain ⟨q, V, R, hq, rfl, HC⟩ := hrel
    have X := HC.out.1.boxed
    by_cases hlt : q < n
    · obtain ⟨b, off, rfl, hbl, hcell⟩ := (HC.out.1.arg HR.out hB).2 (by omega)
      have hq1 := hcell q hlt
      have hvn : (V 0).n + 1 ≤ 4000000 := by
        have := HC.out.1.len (k := 0) (by decide)
        rw [upd_same, List.length_append, List.length_take] at this
        omega
      have hbw : b < wr.heap.size := by have := HC.out.1.big; omega
      have j0 : (0 : Int) ≤ q := by omega
      have j1 : (q : Int) < n := by omega
      obtain ⟨y, hy⟩ : ∃ y, y = ys.getD q 0 := ⟨_, rfl⟩
      rw [← hy] at hq1
      have HYY := Lib.hid hy
      have c0 := X.cell 0 (by decide)
      have cf := X.free 0
      have cl := X.lt
      have hbig := HC.out.1.big
      clear hcell hy X
      go_wp2
      go_region_law ((refine step_cat (by rfl) (.tmp 28) (.tmp 33) (by rfl) (by rfl) (by rfl) (HC.out.1.drew.row (k := 0) (.cells #[.int .i64 y] 3) (by decide)) (row_lit1 wr.drew y) (by simp; omega) (by omega) ?_; intro p' cp' w3 hc; have HM := Lib.hid (HC.out.1.drew.mid (k := 0) (by decide) hc); have HC3 := Lib.hid (HC.out.1.drew.cat (k := 0) (by decide) hc); have m0 := HM.out.1.cell 0 (by decide); have mf := HM.out.1.free 0; have ml := HM.out.1.lt; clear hc HM))
      all_goals clear c0 cf cl m0 mf ml
      all_goals go_wp2
      all_goals go_roundw
      case rel =>
        obtain ⟨R', hL, hK⟩ := HC3.out
        rw [upd_push HY.out hlt HYY.out] at hL
        exact ⟨q + 1, _, R', by omega, by go_num, Lib.hid ⟨hL, (hK 2 (by decide)).trans HC.out.2⟩⟩
      case measure => simp [intOf]; omega
      case rel =>
        obtain ⟨R', hL, hK⟩ := HC3.out
        rw [upd_push HY.out hlt HYY.out] at hL
        exact ⟨q + 1, _, R', by omega, by go_num, Lib.hid ⟨hL, (hK 2 (by decide)).trans HC.out.2⟩⟩
      case measure => simp [intOf]; omega
      case rel =>
        obtain ⟨R', hL, hK⟩ := HC3.out
        rw [upd_push HY.out hlt HYY.out] at hL
        exact ⟨q + 1, _, R', by omega, by go_num, Lib.hid ⟨hL, (hK 2 (by decide)).trans HC.out.2⟩⟩
      case measure => simp [intOf]; omega
    · obtain rfl : q = n := by omega
      have hall : ys.take q = ys := List.take_of_length_le (by have := HY.out; omega)
      have hh := HC.out
      rw [hall] at hh
      have Z := HC.out.1.res.box HC.out.2
      have E := Lib.hid (hh.1.done (by decide) hh.2)
      have c0 := X.cell 0 (by decide)
      have c1 := X.cell 1 (by decide)
      have c2 := X.cell 2 (by decide)
      have cl := X.lt
      have x0 := Z.cell 0 (by decide)
      have x1 := Z.cell 1 (by decide)
      have x2 := Z.cell 2 (by decide)
      have y0 := Z.free 0
      have y1 := Z.free 1
      have y2 := Z.free 2
      have xl := Z.lt
      clear hall hh X Z
      go_wp2
      refine bodyPost_ret (v := .tuple #[(.agg #[.slice (V 0).a (V 0).n (V 0).c, .slice (V 1).a (V 1).n (V 1).c, .slice (V 2).a (V 2).n (V 2).c]), .int .i64 0]) ?_ rfl ⟨V, rfl, E.out.1, E.out.2⟩
      simp [results, Try.results12, go_sem, x0, x1, x2]
theorem rpush_ok1 (B : Nat) (u : Nat → Sl) (f : Nat → List Int) (A : Option Addr) (n c : Nat) (ys : List Int) (w : World) (h : L3 w B u f) (hB : B ≤ w.heap.size) (hn : ∀ j, j < 3 → (u j).n ≤ 2000000) (hr : Row w B A n ys) (hn' : n ≤ 1000000) :
    Calls Try.prog 12 #[(.agg #[.slice (u 0).a (u 0).n (u 0).c, .slice (u 1).a (u 1).n (u 1).c, .slice (u 2).a (u 2).n (u 2).c]), .int .i64 1, .slice A n c] w (POut w (upd f 1 (f 1 ++ ys)) 0) := by
  have HL := Lib.hid h
  have HN := Lib.hid hn
  have HR := Lib.hid hr
  have HY := Lib.hid hr.1
  have hfl : (f 1).length ≤ 2000000 := by have := h.len 1 (by decide); have := hn 1 (by decide); omega
  clear h hn hr
  go_enter Try.func12, Try.ntmps12
  go_wp2_with fail
  have b0 := two_below w (.cells #[.slice (u 0).a (u 0).n (u 0).c, .slice (u 1).a (u 1).n (u 1).c, .slice (u 2).a (u 2).n (u 2).c] 24) (.cells #[.slice none 0 0, .slice none 0 0, .slice none 0 0] 24)
  refine (rown_any B u f _ (HL.out.over b0 hB) (by simp; omega) HN.out).mono ?_
  rintro e w1 ⟨v, rfl, ho, hb⟩
  obtain ⟨R0, hL0, hR0, _⟩ := lst_start ho hb
  have HS := Lib.hid (And.intro hL0 hR0)
  clear ho hb b0 hL0 hR0
  go_wp2
  generalize w1.alloc (.cells #[.slice (v 0).a (v 0).n (v 0).c, .slice (v 1).a (v 1).n (v 1).c, .slice (v 2).a (v 2).n (v 2).c] 24) = w2 at HS ⊢
  generalize w1.heap.size = d at HS ⊢
  go_loopw [9] (fun i wr => ∃ (q : Nat) (V : Nat → Sl) (R : Nat → Option Thing), q ≤ n ∧ i = .int .i64 q ∧ Hid (Lst w.heap.size w wr R d V (upd f 1 (f 1 ++ ys.take q)) ∧ R 2 = some (tBox (w.heap.size + 1) noSl))) (fun i _ => n - (intOf i).toNat)
  case atStart =>
    refine ⟨0, v, R0, Nat.zero_le _, rfl, ?_⟩
    rw [upd_nil]
    exact HS
  case round =>
    obtain ⟨q, V, R, hq, rfl, HC⟩ := hrel
    have X := HC.out.1.boxed
    by_cases hlt : q < n
    · obtain ⟨b, off, rfl, hbl, hcell⟩ := (HC.out.1.arg HR.out hB).2 (by omega)
      have hq1 := hcell q hlt
      have hvn : (V 1).n + 1 ≤ 4000000 := by
        have := HC.out.1.len (k := 1) (by decide)
        rw [upd_same, List.length_append, List.length_take] at this
        omega
      have hbw : b < wr.heap.size := by have := HC.out.1.big; omega
      have j0 : (0 : Int) ≤ q := by omega
      have j1 : (q : Int) < n := by omega
      obtain ⟨y, hy⟩ : ∃ y, y = ys.getD q 0 := ⟨_, rfl⟩
      rw [← hy] at hq1
      have HYY := Lib.hid hy
      have c0 := X.cell 1 (by decide)
      have cf := X.free 1
      have cl := X.lt
      have hbig := HC.out.1.big
      clear hcell hy X
      go_wp2
      go_region_law ((refine step_cat (by rfl) (.tmp 28) (.tmp 33) (by rfl) (by rfl) (by rfl) (HC.out.1.drew.row (k := 1) (.cells #[.int .i64 y] 3) (by decide)) (row_lit1 wr.drew y) (by simp; omega) (by omega) ?_; intro p' cp' w3 hc; have HM := Lib.hid (HC.out.1.drew.mid (k := 1) (by decide) hc); have HC3 := Lib.hid (HC.out.1.drew.cat (k := 1) (by decide) hc); have m0 := HM.out.1.cell 1 (by decide); have mf := HM.out.1.free 1; have ml := HM.out.1.lt; clear hc HM))
      all_goals clear c0 cf cl m0 mf ml
      all_goals go_wp2
      all_goals go_roundw
      case rel =>
        obtain ⟨R', hL, hK⟩ := HC3.out
        rw [upd_push HY.out hlt HYY.out] at hL
        exact ⟨q + 1, _, R', by omega, by go_num, Lib.hid ⟨hL, (hK 2 (by decide)).trans HC.out.2⟩⟩
      case measure => simp [intOf]; omega
      case rel =>
        obtain ⟨R', hL, hK⟩ := HC3.out
        rw [upd_push HY.out hlt HYY.out] at hL
        exact ⟨q + 1, _, R', by omega, by go_num, Lib.hid ⟨hL, (hK 2 (by decide)).trans HC.out.2⟩⟩
      case measure => simp [intOf]; omega
      case rel =>
        obtain ⟨R', hL, hK⟩ := HC3.out
        rw [upd_push HY.out hlt HYY.out] at hL
        exact ⟨q + 1, _, R', by omega, by go_num, Lib.hid ⟨hL, (hK 2 (by decide)).trans HC.out.2⟩⟩
      case measure => simp [intOf]; omega
    · obtain rfl : q = n := by omega
      have hall : ys.take q = ys := List.take_of_length_le (by have := HY.out; omega)
      have hh := HC.out
      rw [hall] at hh
      have Z := HC.out.1.res.box HC.out.2
      have E := Lib.hid (hh.1.done (by decide) hh.2)
      have c0 := X.cell 0 (by decide)
      have c1 := X.cell 1 (by decide)
      have c2 := X.cell 2 (by decide)
      have cl := X.lt
      have x0 := Z.cell 0 (by decide)
      have x1 := Z.cell 1 (by decide)
      have x2 := Z.cell 2 (by decide)
      have y0 := Z.free 0
      have y1 := Z.free 1
      have y2 := Z.free 2
      have xl := Z.lt
      clear hall hh X Z
      go_wp2
      refine bodyPost_ret (v := .tuple #[(.agg #[.slice (V 0).a (V 0).n (V 0).c, .slice (V 1).a (V 1).n (V 1).c, .slice (V 2).a (V 2).n (V 2).c]), .int .i64 0]) ?_ rfl ⟨V, rfl, E.out.1, E.out.2⟩
      simp [results, Try.results12, go_sem, x0, x1, x2]
theorem rpush_ok2 (B : Nat) (u : Nat → Sl) (f : Nat → List Int) (A : Option Addr) (n c : Nat) (ys : List Int) (w : World) (h : L3 w B u f) (hB : B ≤ w.heap.size) (hn : ∀ j, j < 3 → (u j).n ≤ 2000000) (hr : Row w B A n ys) (hn' : n ≤ 1000000) :
    Calls Try.prog 12 #[(.agg #[.slice (u 0).a (u 0).n (u 0).c, .slice (u 1).a (u 1).n (u 1).c, .slice (u 2).a (u 2).n (u 2).c]), .int .i64 2, .slice A n c] w (POut w (upd f 2 (f 2 ++ ys)) 0) := by
  have HL := Lib.hid h
  have HN := Lib.hid hn
  have HR := Lib.hid hr
  have HY := Lib.hid hr.1
  have hfl : (f 2).length ≤ 2000000 := by have := h.len 2 (by decide); have := hn 2 (by decide); omega
  clear h hn hr
  go_enter Try.func12, Try.ntmps12
  go_wp2_with fail
  have b0 := two_below w (.cells #[.slice (u 0).a (u 0).n (u 0).c, .slice (u 1).a (u 1).n (u 1).c, .slice (u 2).a (u 2).n (u 2).c] 24) (.cells #[.slice none 0 0, .slice none 0 0, .slice none 0 0] 24)
  refine (rown_any B u f _ (HL.out.over b0 hB) (by simp; omega) HN.out).mono ?_
  rintro e w1 ⟨v, rfl, ho, hb⟩
  obtain ⟨R0, hL0, hR0, _⟩ := lst_start ho hb
  have HS := Lib.hid (And.intro hL0 hR0)
  clear ho hb b0 hL0 hR0
  go_wp2
  generalize w1.alloc (.cells #[.slice (v 0).a (v 0).n (v 0).c, .slice (v 1).a (v 1).n (v 1).c, .slice (v 2).a (v 2).n (v 2).c] 24) = w2 at HS ⊢
  generalize w1.heap.size = d at HS ⊢
  go_loopw [9] (fun i wr => ∃ (q : Nat) (V : Nat → Sl) (R : Nat → Option Thing), q ≤ n ∧ i = .int .i64 q ∧ Hid (Lst w.heap.size w wr R d V (upd f 2 (f 2 ++ ys.take q)) ∧ R 2 = some (tBox (w.heap.size + 1) noSl))) (fun i _ => n - (intOf i).toNat)
  case atStart =>
    refine ⟨0, v, R0, Nat.zero_le _, rfl, ?_⟩
    rw [upd_nil]
    exact HS
  case round =>
    obtain ⟨q, V, R, hq, rfl, HC⟩ := hrel
    have X := HC.out.1.boxed
    by_cases hlt : q < n
    · obtain ⟨b, off, rfl, hbl, hcell⟩ := (HC.out.1.arg HR.out hB).2 (by omega)
      have hq1 := hcell q hlt
      have hvn : (V 2).n + 1 ≤ 4000000 := by
        have := HC.out.1.len (k := 2) (by decide)
        rw [upd_same, List.length_append, List.length_take] at this
        omega
      have hbw : b < wr.heap.size := by have := HC.out.1.big; omega
      have j0 : (0 : Int) ≤ q := by omega
      have j1 : (q : Int) < n := by omega
      obtain ⟨y, hy⟩ : ∃ y, y = ys.getD q 0 := ⟨_, rfl⟩
      rw [← hy] at hq1
      have HYY := Lib.hid hy
      have c0 := X.cell 2 (by decide)
      have cf := X.free 2
      have cl := X.lt
      have hbig := HC.out.1.big
      clear hcell hy X
      go_wp2
      go_region_law ((refine step_cat (by rfl) (.tmp 28) (.tmp 33) (by rfl) (by rfl) (by rfl) (HC.out.1.drew.row (k := 2) (.cells #[.int .i64 y] 3) (by decide)) (row_lit1 wr.drew y) (by simp; omega) (by omega) ?_; intro p' cp' w3 hc; have HM := Lib.hid (HC.out.1.drew.mid (k := 2) (by decide) hc); have HC3 := Lib.hid (HC.out.1.drew.cat (k := 2) (by decide) hc); have m0 := HM.out.1.cell 2 (by decide); have mf := HM.out.1.free 2; have ml := HM.out.1.lt; clear hc HM))
      all_goals clear c0 cf cl m0 mf ml
      all_goals go_wp2
      all_goals go_roundw
      case rel =>
        obtain ⟨R', hL, hK⟩ := HC3.out
        rw [upd_push HY.out hlt HYY.out] at hL
        exact ⟨q + 1, _, R', by omega, by go_num, Lib.hid ⟨hL, (hK 2 (by decide)).trans HC.out.2⟩⟩
      case measure => simp [intOf]; omega
      case rel =>
        obtain ⟨R', hL, hK⟩ := HC3.out
        rw [upd_push HY.out hlt HYY.out] at hL
        exact ⟨q + 1, _, R', by omega, by go_num, Lib.hid ⟨hL, (hK 2 (by decide)).trans HC.out.2⟩⟩
      case measure => simp [intOf]; omega
      case rel =>
        obtain ⟨R', hL, hK⟩ := HC3.out
        rw [upd_push HY.out hlt HYY.out] at hL
        exact ⟨q + 1, _, R', by omega, by go_num, Lib.hid ⟨hL, (hK 2 (by decide)).trans HC.out.2⟩⟩
      case measure => simp [intOf]; omega
    · obtain rfl : q = n := by omega
      have hall : ys.take q = ys := List.take_of_length_le (by have := HY.out; omega)
      have hh := HC.out
      rw [hall] at hh
      have Z := HC.out.1.res.box HC.out.2
      have E := Lib.hid (hh.1.done (by decide) hh.2)
      have c0 := X.cell 0 (by decide)
      have c1 := X.cell 1 (by decide)
      have c2 := X.cell 2 (by decide)
      have cl := X.lt
      have x0 := Z.cell 0 (by decide)
      have x1 := Z.cell 1 (by decide)
      have x2 := Z.cell 2 (by decide)
      have y0 := Z.free 0
      have y1 := Z.free 1
      have y2 := Z.free 2
      have xl := Z.lt
      clear hall hh X Z
      go_wp2
      refine bodyPost_ret (v := .tuple #[(.agg #[.slice (V 0).a (V 0).n (V 0).c, .slice (V 1).a (V 1).n (V 1).c, .slice (V 2).a (V 2).n (V 2).c]), .int .i64 0]) ?_ rfl ⟨V, rfl, E.out.1, E.out.2⟩
      simp [results, Try.results12, go_sem, x0, x1, x2]
theorem rpush_ok (B : Nat) (u : Nat → Sl) (f : Nat → List Int) (k : Nat) (hk : k < 3) (A : Option Addr) (n c : Nat) (ys : List Int) (w : World) (h : L3 w B u f) (hB : B ≤ w.heap.size) (hn : ∀ j, j < 3 → (u j).n ≤ 2000000) (hr : Row w B A n ys) (hn' : n ≤ 1000000) :
    Calls Try.prog 12 #[(.agg #[.slice (u 0).a (u 0).n (u 0).c, .slice (u 1).a (u 1).n (u 1).c, .slice (u 2).a (u 2).n (u 2).c]), .int .i64 k, .slice A n c] w (POut w (upd f k (f k ++ ys)) 0) := by
  rcases (show k = 0 ∨ k = 1 ∨ k = 2 by omega) with rfl | rfl | rfl
  · exact rpush_ok0 B u f A n c ys w h hB hn hr hn'
  · exact rpush_ok1 B u f A n c ys w h hB hn hr hn'
  · exact rpush_ok2 B u f A n c ys w h hB hn hr hn'
end Go.Proofs.Ytegggfghocicaaa
