/-
  Package lists' Push: lists with numbers behind those of a class, or the error.
-/
import Derived.Test.YtegggfghocicaaaLsOwn
namespace Go.Proofs.Ytegggfghocicaaa
open Go.RowKit

/-- Lists were returned, and a word of an error. -/
def POut (w : World) (g : Nat → List Int) (er : Int) (e : Ending) (w' : World) : Prop := ∃ u, e = .returned (.tuple #[(.agg #[.slice (u 0).a (u 0).n (u 0).c, .slice (u 1).a (u 1).n (u 1).c, .slice (u 2).a (u 2).n (u 2).c]), .int .i64 er]) ∧ L3 w' w'.heap.size u g ∧ Below w.heap.size w w'

theorem two_boxes (w : World) (u : Nat → Sl) : Box3 ((w.alloc (.cells #[.slice (u 0).a (u 0).n (u 0).c, .slice (u 1).a (u 1).n (u 1).c, .slice (u 2).a (u 2).n (u 2).c] 24)).alloc (.cells #[.slice none 0 0, .slice none 0 0, .slice none 0 0] 24)) (w.heap.size + 1) noSl := by
  have := Box3.new (w.alloc (.cells #[.slice (u 0).a (u 0).n (u 0).c, .slice (u 1).a (u 1).n (u 1).c, .slice (u 2).a (u 2).n (u 2).c] 24)) noSl 24
  rw [World.size_alloc] at this
  exact this
theorem two_below (w : World) (o p : Obj) : Below w.heap.size w ((w.alloc o).alloc p) := ((Below.refl _ _).alloc (Nat.le_refl _) _).alloc (by simp) _

/-- Behind an append to a class: the box of the lists, the result's box; and what is returned. -/
theorem turned {w w1 w2 : World} {v : Nat → Sl} {f : Nat → List Int} {k : Nat} {xs : List Int} (ho : Own3 w1 (w.heap.size + 2) v f) (hb : Below w.heap.size w w1) (X : Box3 w1 (w.heap.size + 1) noSl) (hk : k < 3) (s : Sl)
    (hc : Catted (w1.alloc (.cells #[.slice (v 0).a (v 0).n (v 0).c, .slice (v 1).a (v 1).n (v 1).c, .slice (v 2).a (v 2).n (v 2).c] 24)) (w.heap.size + 2) (.slice (v k).a (v k).n (v k).c) s xs w2) :
    Box3 w2 w1.heap.size v ∧ Box3 w2 (w.heap.size + 1) noSl ∧
    Own3 (put3 (w2.setCell ⟨w1.heap.size, k, none⟩ (.slice s.a s.n s.c)) (w.heap.size + 1) (upd v k s)) (w.heap.size + 2) (upd v k s) (upd f k xs) ∧
    Below w.heap.size w (put3 (w2.setCell ⟨w1.heap.size, k, none⟩ (.slice s.a s.n s.c)) (w.heap.size + 1) (upd v k s)) := by
  have hX := X.lt
  obtain ⟨ho2, hg2, hat⟩ := hc
  have ob : ∀ q, (Value.slice (v k).a (v k).n (v k).c).ownBlock = some q → w.heap.size + 2 ≤ q ∧ q < w1.heap.size := (ho.own k hk).lt
  have O2 := (ho.alloc (.cells #[.slice (v 0).a (v 0).n (v 0).c, .slice (v 1).a (v 1).n (v 1).c, .slice (v 2).a (v 2).n (v 2).c] 24)).appended hk s ho2 hg2 hat
  have sep : ∀ j x, j < 3 → ((upd v k s) j).a = some x → ¬ x.block = w1.heap.size := by
    intro j x hj hx
    by_cases e : j = k
    · subst e
      rw [upd_same] at hx
      rcases hat x hx with h | h
      · have := ob _ h
        omega
      · rw [World.size_alloc] at h
        omega
    · rw [upd_other _ _ e] at hx
      have := (ho.block j hj hx).2
      omega
  refine ⟨(Box3.new w1 v 24).grown hg2 ?_, (X.alloc _).grown hg2 ?_, ?_, ?_⟩
  · intro e
    have := ob _ e.symm
    omega
  · intro e
    have := ob _ e.symm
    omega
  · exact (O2.setAbove (p := ⟨w1.heap.size, k, none⟩) sep _).put (fun j x hj hx => by have := (O2.block j hj hx).1; omega) _
  · refine below_put3 (((hb.alloc hb.size _).grown hg2 ?_ ?_).setCell (p := ⟨w1.heap.size, k, none⟩) hb.size _) (by omega) _
    · rw [World.size_alloc]
      have := hb.size
      omega
    · intro q hq
      have := ob _ hq
      omega

theorem two_on {w w1 : World} {u v : Nat → Sl} {f : Nat → List Int} (ho : Own3 w1 ((w.alloc (.cells #[.slice (u 0).a (u 0).n (u 0).c, .slice (u 1).a (u 1).n (u 1).c, .slice (u 2).a (u 2).n (u 2).c] 24)).alloc (.cells #[.slice none 0 0, .slice none 0 0, .slice none 0 0] 24)).heap.size v f)
    (hb : Below ((w.alloc (.cells #[.slice (u 0).a (u 0).n (u 0).c, .slice (u 1).a (u 1).n (u 1).c, .slice (u 2).a (u 2).n (u 2).c] 24)).alloc (.cells #[.slice none 0 0, .slice none 0 0, .slice none 0 0] 24)).heap.size ((w.alloc (.cells #[.slice (u 0).a (u 0).n (u 0).c, .slice (u 1).a (u 1).n (u 1).c, .slice (u 2).a (u 2).n (u 2).c] 24)).alloc (.cells #[.slice none 0 0, .slice none 0 0, .slice none 0 0] 24)) w1) :
    Hid (Box3 w1 (w.heap.size + 1) noSl) ∧ Own3 w1 (w.heap.size + 2) v f ∧ Below w.heap.size w w1 :=
  ⟨(two_boxes w u).next hb, ho.less (by simp), (two_below w _ _).trans (hb.mono (two_below w _ _).size)⟩

theorem push_bad (u : Nat → Sl) (k : Int) (A : Option Addr) (n c : Nat) (w : World) (hk : isCl k = false) :
    Calls Try.prog 11 #[(.agg #[.slice (u 0).a (u 0).n (u 0).c, .slice (u 1).a (u 1).n (u 1).c, .slice (u 2).a (u 2).n (u 2).c]), .int .i64 k, .slice A n c] w (POut w noLists 1) := by
  have HK := Lib.hid hk
  clear hk
  go_enter Try.func11, Try.ntmps11
  go_wp2_with (go_at_call 26; refine (class_no _ _ HK.out).mono ?_; rintro e w' ⟨rfl, rfl⟩)
  refine bodyPost_ret (v := .tuple #[(.agg #[.slice (noSl 0).a (noSl 0).n (noSl 0).c, .slice (noSl 1).a (noSl 1).n (noSl 1).c, .slice (noSl 2).a (noSl 2).n (noSl 2).c]), .int .i64 1]) ?_ rfl ⟨noSl, rfl, L3.none_ _ _, ?_⟩
  · simp [results, Try.results11, go_sem, noSl]
  · exact two_below _ _ _
theorem push_ok0 (B : Nat) (u : Nat → Sl) (f : Nat → List Int) (A : Option Addr) (n c : Nat) (ys : List Int) (w : World) (h : L3 w B u f) (hB : B ≤ w.heap.size) (hn : ∀ j, j < 3 → (u j).n ≤ 2000000) (hr : Row w B A n ys) (hn' : n ≤ 2000000) :
    Calls Try.prog 11 #[(.agg #[.slice (u 0).a (u 0).n (u 0).c, .slice (u 1).a (u 1).n (u 1).c, .slice (u 2).a (u 2).n (u 2).c]), .int .i64 0, .slice A n c] w (POut w (upd f 0 (f 0 ++ ys)) 0) := by
  have HL := Lib.hid h
  have HN := Lib.hid hn
  have HR := Lib.hid hr
  clear h hn hr
  go_enter Try.func11, Try.ntmps11
  go_wp2_with (go_at_call 26; refine (class_yes _ _ (by decide) (by decide)).mono ?_; rintro e w' ⟨rfl, rfl⟩)
  have b0 := two_below w (.cells #[.slice (u 0).a (u 0).n (u 0).c, .slice (u 1).a (u 1).n (u 1).c, .slice (u 2).a (u 2).n (u 2).c] 24) (.cells #[.slice none 0 0, .slice none 0 0, .slice none 0 0] 24)
  refine (copied_any B u f _ (HL.out.over b0 hB) (by simp; omega) HN.out).mono ?_
  rintro e w1 ⟨v, rfl, ho0, hb0⟩
  obtain ⟨X1, ho, hb⟩ := two_on ho0 hb0
  clear ho0 hb0
  have OH := Lib.hid ho
  have BH := Lib.hid hb
  have hlen : (v 0).n + n ≤ 4000000 := by
    have h1 := ho.l3.len 0 (by decide)
    have h2 := HL.out.len 0 (by decide)
    have h3 := HN.out 0 (by decide)
    omega
  have R1 := Lib.hid ((HR.out.over hb hB).alloc (.cells #[.slice (v 0).a (v 0).n (v 0).c, .slice (v 1).a (v 1).n (v 1).c, .slice (v 2).a (v 2).n (v 2).c] 24) (by have := hb.size; omega))
  have hbase : w.heap.size + 2 ≤ (w1.alloc (.cells #[.slice (v 0).a (v 0).n (v 0).c, .slice (v 1).a (v 1).n (v 1).c, .slice (v 2).a (v 2).n (v 2).c] 24)).heap.size := by have := X1.out.lt; rw [World.size_alloc]; omega
  have Ow := Lib.hid ((ho.alloc (.cells #[.slice (v 0).a (v 0).n (v 0).c, .slice (v 1).a (v 1).n (v 1).c, .slice (v 2).a (v 2).n (v 2).c] 24)).own 0 (by decide))
  clear ho hb b0
  go_wp2_with (at_builtin; refine list_cat rfl _ _ rfl rfl rfl Ow.out R1.out hbase hlen ?_)
  intro p' cp' w2 hc
  obtain ⟨Y, X, O, BL⟩ := turned OH.out BH.out X1.out (k := 0) (by decide) ⟨p', (v 0).n + n, cp'⟩ hc
  have c0 := Y.cell 0 (by decide)
  have c1 := Y.cell 1 (by decide)
  have c2 := Y.cell 2 (by decide)
  have cf := Y.free 0
  have cl := Y.lt
  have x0 := X.cell 0 (by decide)
  have x1 := X.cell 1 (by decide)
  have x2 := X.cell 2 (by decide)
  have y0 := X.free 0
  have y1 := X.free 1
  have y2 := X.free 2
  have xl := X.lt
  have HO := Lib.hid O
  have HB := Lib.hid BL
  have hne' : ¬ w1.heap.size = w.heap.size + 1 := by have := X1.out.lt; omega
  clear hc Y X O BL
  go_wp2
  refine bodyPost_ret (v := .tuple #[(.agg #[.slice (upd v 0 ⟨p', (v 0).n + n, cp'⟩ 0).a (upd v 0 ⟨p', (v 0).n + n, cp'⟩ 0).n (upd v 0 ⟨p', (v 0).n + n, cp'⟩ 0).c, .slice (upd v 0 ⟨p', (v 0).n + n, cp'⟩ 1).a (upd v 0 ⟨p', (v 0).n + n, cp'⟩ 1).n (upd v 0 ⟨p', (v 0).n + n, cp'⟩ 1).c, .slice (upd v 0 ⟨p', (v 0).n + n, cp'⟩ 2).a (upd v 0 ⟨p', (v 0).n + n, cp'⟩ 2).n (upd v 0 ⟨p', (v 0).n + n, cp'⟩ 2).c]), .int .i64 0]) ?_ rfl ⟨_, rfl, HO.out.l3, HB.out⟩
  simp [results, Try.results11, go_sem, upd, x0, x1, x2]
theorem push_ok1 (B : Nat) (u : Nat → Sl) (f : Nat → List Int) (A : Option Addr) (n c : Nat) (ys : List Int) (w : World) (h : L3 w B u f) (hB : B ≤ w.heap.size) (hn : ∀ j, j < 3 → (u j).n ≤ 2000000) (hr : Row w B A n ys) (hn' : n ≤ 2000000) :
    Calls Try.prog 11 #[(.agg #[.slice (u 0).a (u 0).n (u 0).c, .slice (u 1).a (u 1).n (u 1).c, .slice (u 2).a (u 2).n (u 2).c]), .int .i64 1, .slice A n c] w (POut w (upd f 1 (f 1 ++ ys)) 0) := by
  have HL := Lib.hid h
  have HN := Lib.hid hn
  have HR := Lib.hid hr
  clear h hn hr
  go_enter Try.func11, Try.ntmps11
  go_wp2_with (go_at_call 26; refine (class_yes _ _ (by decide) (by decide)).mono ?_; rintro e w' ⟨rfl, rfl⟩)
  have b0 := two_below w (.cells #[.slice (u 0).a (u 0).n (u 0).c, .slice (u 1).a (u 1).n (u 1).c, .slice (u 2).a (u 2).n (u 2).c] 24) (.cells #[.slice none 0 0, .slice none 0 0, .slice none 0 0] 24)
  refine (copied_any B u f _ (HL.out.over b0 hB) (by simp; omega) HN.out).mono ?_
  rintro e w1 ⟨v, rfl, ho0, hb0⟩
  obtain ⟨X1, ho, hb⟩ := two_on ho0 hb0
  clear ho0 hb0
  have OH := Lib.hid ho
  have BH := Lib.hid hb
  have hlen : (v 1).n + n ≤ 4000000 := by
    have h1 := ho.l3.len 1 (by decide)
    have h2 := HL.out.len 1 (by decide)
    have h3 := HN.out 1 (by decide)
    omega
  have R1 := Lib.hid ((HR.out.over hb hB).alloc (.cells #[.slice (v 0).a (v 0).n (v 0).c, .slice (v 1).a (v 1).n (v 1).c, .slice (v 2).a (v 2).n (v 2).c] 24) (by have := hb.size; omega))
  have hbase : w.heap.size + 2 ≤ (w1.alloc (.cells #[.slice (v 0).a (v 0).n (v 0).c, .slice (v 1).a (v 1).n (v 1).c, .slice (v 2).a (v 2).n (v 2).c] 24)).heap.size := by have := X1.out.lt; rw [World.size_alloc]; omega
  have Ow := Lib.hid ((ho.alloc (.cells #[.slice (v 0).a (v 0).n (v 0).c, .slice (v 1).a (v 1).n (v 1).c, .slice (v 2).a (v 2).n (v 2).c] 24)).own 1 (by decide))
  clear ho hb b0
  go_wp2_with (at_builtin; refine list_cat rfl _ _ rfl rfl rfl Ow.out R1.out hbase hlen ?_)
  intro p' cp' w2 hc
  obtain ⟨Y, X, O, BL⟩ := turned OH.out BH.out X1.out (k := 1) (by decide) ⟨p', (v 1).n + n, cp'⟩ hc
  have c0 := Y.cell 0 (by decide)
  have c1 := Y.cell 1 (by decide)
  have c2 := Y.cell 2 (by decide)
  have cf := Y.free 1
  have cl := Y.lt
  have x0 := X.cell 0 (by decide)
  have x1 := X.cell 1 (by decide)
  have x2 := X.cell 2 (by decide)
  have y0 := X.free 0
  have y1 := X.free 1
  have y2 := X.free 2
  have xl := X.lt
  have HO := Lib.hid O
  have HB := Lib.hid BL
  have hne' : ¬ w1.heap.size = w.heap.size + 1 := by have := X1.out.lt; omega
  clear hc Y X O BL
  go_wp2
  refine bodyPost_ret (v := .tuple #[(.agg #[.slice (upd v 1 ⟨p', (v 1).n + n, cp'⟩ 0).a (upd v 1 ⟨p', (v 1).n + n, cp'⟩ 0).n (upd v 1 ⟨p', (v 1).n + n, cp'⟩ 0).c, .slice (upd v 1 ⟨p', (v 1).n + n, cp'⟩ 1).a (upd v 1 ⟨p', (v 1).n + n, cp'⟩ 1).n (upd v 1 ⟨p', (v 1).n + n, cp'⟩ 1).c, .slice (upd v 1 ⟨p', (v 1).n + n, cp'⟩ 2).a (upd v 1 ⟨p', (v 1).n + n, cp'⟩ 2).n (upd v 1 ⟨p', (v 1).n + n, cp'⟩ 2).c]), .int .i64 0]) ?_ rfl ⟨_, rfl, HO.out.l3, HB.out⟩
  simp [results, Try.results11, go_sem, upd, x0, x1, x2]
theorem push_ok2 (B : Nat) (u : Nat → Sl) (f : Nat → List Int) (A : Option Addr) (n c : Nat) (ys : List Int) (w : World) (h : L3 w B u f) (hB : B ≤ w.heap.size) (hn : ∀ j, j < 3 → (u j).n ≤ 2000000) (hr : Row w B A n ys) (hn' : n ≤ 2000000) :
    Calls Try.prog 11 #[(.agg #[.slice (u 0).a (u 0).n (u 0).c, .slice (u 1).a (u 1).n (u 1).c, .slice (u 2).a (u 2).n (u 2).c]), .int .i64 2, .slice A n c] w (POut w (upd f 2 (f 2 ++ ys)) 0) := by
  have HL := Lib.hid h
  have HN := Lib.hid hn
  have HR := Lib.hid hr
  clear h hn hr
  go_enter Try.func11, Try.ntmps11
  go_wp2_with (go_at_call 26; refine (class_yes _ _ (by decide) (by decide)).mono ?_; rintro e w' ⟨rfl, rfl⟩)
  have b0 := two_below w (.cells #[.slice (u 0).a (u 0).n (u 0).c, .slice (u 1).a (u 1).n (u 1).c, .slice (u 2).a (u 2).n (u 2).c] 24) (.cells #[.slice none 0 0, .slice none 0 0, .slice none 0 0] 24)
  refine (copied_any B u f _ (HL.out.over b0 hB) (by simp; omega) HN.out).mono ?_
  rintro e w1 ⟨v, rfl, ho0, hb0⟩
  obtain ⟨X1, ho, hb⟩ := two_on ho0 hb0
  clear ho0 hb0
  have OH := Lib.hid ho
  have BH := Lib.hid hb
  have hlen : (v 2).n + n ≤ 4000000 := by
    have h1 := ho.l3.len 2 (by decide)
    have h2 := HL.out.len 2 (by decide)
    have h3 := HN.out 2 (by decide)
    omega
  have R1 := Lib.hid ((HR.out.over hb hB).alloc (.cells #[.slice (v 0).a (v 0).n (v 0).c, .slice (v 1).a (v 1).n (v 1).c, .slice (v 2).a (v 2).n (v 2).c] 24) (by have := hb.size; omega))
  have hbase : w.heap.size + 2 ≤ (w1.alloc (.cells #[.slice (v 0).a (v 0).n (v 0).c, .slice (v 1).a (v 1).n (v 1).c, .slice (v 2).a (v 2).n (v 2).c] 24)).heap.size := by have := X1.out.lt; rw [World.size_alloc]; omega
  have Ow := Lib.hid ((ho.alloc (.cells #[.slice (v 0).a (v 0).n (v 0).c, .slice (v 1).a (v 1).n (v 1).c, .slice (v 2).a (v 2).n (v 2).c] 24)).own 2 (by decide))
  clear ho hb b0
  go_wp2_with (at_builtin; refine list_cat rfl _ _ rfl rfl rfl Ow.out R1.out hbase hlen ?_)
  intro p' cp' w2 hc
  obtain ⟨Y, X, O, BL⟩ := turned OH.out BH.out X1.out (k := 2) (by decide) ⟨p', (v 2).n + n, cp'⟩ hc
  have c0 := Y.cell 0 (by decide)
  have c1 := Y.cell 1 (by decide)
  have c2 := Y.cell 2 (by decide)
  have cf := Y.free 2
  have cl := Y.lt
  have x0 := X.cell 0 (by decide)
  have x1 := X.cell 1 (by decide)
  have x2 := X.cell 2 (by decide)
  have y0 := X.free 0
  have y1 := X.free 1
  have y2 := X.free 2
  have xl := X.lt
  have HO := Lib.hid O
  have HB := Lib.hid BL
  have hne' : ¬ w1.heap.size = w.heap.size + 1 := by have := X1.out.lt; omega
  clear hc Y X O BL
  go_wp2
  refine bodyPost_ret (v := .tuple #[(.agg #[.slice (upd v 2 ⟨p', (v 2).n + n, cp'⟩ 0).a (upd v 2 ⟨p', (v 2).n + n, cp'⟩ 0).n (upd v 2 ⟨p', (v 2).n + n, cp'⟩ 0).c, .slice (upd v 2 ⟨p', (v 2).n + n, cp'⟩ 1).a (upd v 2 ⟨p', (v 2).n + n, cp'⟩ 1).n (upd v 2 ⟨p', (v 2).n + n, cp'⟩ 1).c, .slice (upd v 2 ⟨p', (v 2).n + n, cp'⟩ 2).a (upd v 2 ⟨p', (v 2).n + n, cp'⟩ 2).n (upd v 2 ⟨p', (v 2).n + n, cp'⟩ 2).c]), .int .i64 0]) ?_ rfl ⟨_, rfl, HO.out.l3, HB.out⟩
  simp [results, Try.results11, go_sem, upd, x0, x1, x2]
theorem push_ok (B : Nat) (u : Nat → Sl) (f : Nat → List Int) (k : Nat) (hk : k < 3) (A : Option Addr) (n c : Nat) (ys : List Int) (w : World) (h : L3 w B u f) (hB : B ≤ w.heap.size) (hn : ∀ j, j < 3 → (u j).n ≤ 2000000) (hr : Row w B A n ys) (hn' : n ≤ 2000000) :
    Calls Try.prog 11 #[(.agg #[.slice (u 0).a (u 0).n (u 0).c, .slice (u 1).a (u 1).n (u 1).c, .slice (u 2).a (u 2).n (u 2).c]), .int .i64 k, .slice A n c] w (POut w (upd f k (f k ++ ys)) 0) := by
  rcases (show k = 0 ∨ k = 1 ∨ k = 2 by omega) with rfl | rfl | rfl
  · exact push_ok0 B u f A n c ys w h hB hn hr hn'
  · exact push_ok1 B u f A n c ys w h hB hn hr hn'
  · exact push_ok2 B u f A n c ys w h hB hn hr hn'
end Go.Proofs.Ytegggfghocicaaa
