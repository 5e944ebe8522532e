/-
  Package lists' Move: two lists, the last numbers of a class moved from the one to the other, the last one first.
-/
import Derived.Test.YtdmclfolooiccaaGreatDoorALsMoveR
import Derived.Deep.CutRange
import Derived.Sort.CutIn
namespace Go.Proofs.YtdmclfolooiccaaGreatDoor.Ls
open Go.Proofs.YtdmclfolooiccaaGreatDoor
set_option maxRecDepth 100000
open Go.RowKit Go.Shelf
attribute [local go_sem] Oper.semAt_some

/-- The frame of 'less, more := copied(from), copied(to)'. -/
def Put6 (a : Act) (x11 x12 x25 x26 x27 x28 : Value) : Act := (((((a.put (some 11) x11).put (some 12) x12).put (some 25) x25).put (some 26) x26).put (some 27) x27).put (some 28) x28
structure MvSt (base : Nat) (W5 : World) (u v : Nat → Sl) (f g : Nat → List Int) (l : Nat → Bool) (x11 x12 x25 x26 x27 x28 : Value) (U V : Nat → Sl) (d1 d2 : Nat) (wc : World) (R : Nat → Option Thing) : Prop where
  res : Res base W5 wc R
  s0 : l 0 = true → x25 = (.agg #[.slice (u 0).a (u 0).n (u 0).c, .slice (u 1).a (u 1).n (u 1).c, .slice (u 2).a (u 2).n (u 2).c])
  s1 : l 1 = true → x26 = (.agg #[.slice (U 0).a (U 0).n (U 0).c, .slice (U 1).a (U 1).n (U 1).c, .slice (U 2).a (U 2).n (U 2).c]) ∧ R 0 = some (tOwn base U f)
  s2 : l 2 = true → x27 = (.agg #[.slice (v 0).a (v 0).n (v 0).c, .slice (v 1).a (v 1).n (v 1).c, .slice (v 2).a (v 2).n (v 2).c])
  s3 : l 3 = true → x28 = (.agg #[.slice (V 0).a (V 0).n (V 0).c, .slice (V 1).a (V 1).n (V 1).c, .slice (V 2).a (V 2).n (V 2).c]) ∧ R 1 = some (tOwn base V g)
  s4 : l 4 = true → x11 = .pointer (some ⟨d1, 0, none⟩) ∧ R 2 = some (tBox d1 (if l 6 then U else noSl))
  s5 : l 5 = true → x12 = .pointer (some ⟨d2, 0, none⟩) ∧ R 3 = some (tBox d2 (if l 7 then V else noSl))
  o6 : l 6 = true → l 1 = true
  o7 : l 7 = true → l 3 = true
  o4 : l 6 = true → l 4 = true
  o5 : l 7 = true → l 5 = true
section
variable {base : Nat} {W5 wc wc' : World} {u v : Nat → Sl} {f g : Nat → List Int} {l : Nat → Bool} {x11 x12 x25 x26 x27 x28 : Value} {U V : Nat → Sl} {d1 d2 : Nat} {R : Nat → Option Thing}
theorem MvSt.start (x11 x12 x25 x26 x27 x28 : Value) : MvSt base W5 u v f g (fun _ => false) x11 x12 x25 x26 x27 x28 noSl noSl 0 0 W5.drew (fun _ => none) :=
  ⟨(Res.none_ W5 base).drewN 1, (fun h => by cases h), (fun h => by cases h), (fun h => by cases h), (fun h => by cases h), (fun h => by cases h), (fun h => by cases h), (fun h => by cases h), (fun h => by cases h), (fun h => by cases h), (fun h => by cases h)⟩
theorem MvSt.size (h : MvSt base W5 u v f g l x11 x12 x25 x26 x27 x28 U V d1 d2 wc R) (hb : base ≤ W5.heap.size) : base ≤ wc.heap.size := Nat.le_trans hb h.res.bel.size
theorem MvSt.did0 (h : MvSt base W5 u v f g l x11 x12 x25 x26 x27 x28 U V d1 d2 wc R) : MvSt base W5 u v f g (upd l 0 true) x11 x12 (.agg #[.slice (u 0).a (u 0).n (u 0).c, .slice (u 1).a (u 1).n (u 1).c, .slice (u 2).a (u 2).n (u 2).c]) x26 x27 x28 U V d1 d2 wc R :=
  ⟨h.res, fun _ => rfl, h.s1, h.s2, h.s3, h.s4, h.s5, h.o6, h.o7, h.o4, h.o5⟩
theorem MvSt.did2 (h : MvSt base W5 u v f g l x11 x12 x25 x26 x27 x28 U V d1 d2 wc R) : MvSt base W5 u v f g (upd l 2 true) x11 x12 x25 x26 (.agg #[.slice (v 0).a (v 0).n (v 0).c, .slice (v 1).a (v 1).n (v 1).c, .slice (v 2).a (v 2).n (v 2).c]) x28 U V d1 d2 wc R :=
  ⟨h.res, h.s0, h.s1, fun _ => rfl, h.s3, h.s4, h.s5, h.o6, h.o7, h.o4, h.o5⟩
theorem MvSt.did1 (h : MvSt base W5 u v f g l x11 x12 x25 x26 x27 x28 U V d1 d2 wc R) (hb : base ≤ W5.heap.size) (hl : l 6 = false) {U' : Nat → Sl} (ho : Own3 wc' wc.heap.size U' f) (hk : Below wc.heap.size wc wc') :
    MvSt base W5 u v f g (upd l 1 true) x11 x12 x25 (.agg #[.slice (U' 0).a (U' 0).n (U' 0).c, .slice (U' 1).a (U' 1).n (U' 1).c, .slice (U' 2).a (U' 2).n (U' 2).c]) x27 x28 U' V d1 d2 wc' (upd R 0 (some (tOwn base U' f))) :=
  ⟨h.res.copied (h.size hb) ho hk 0, h.s0, fun _ => ⟨rfl, rfl⟩, h.s2, h.s3, fun h4 => by
    have := h.s4 h4
    rw [hl] at this
    simp only [upd]
    simpa [hl] using this, h.s5, fun _ => rfl, h.o7, h.o4, h.o5⟩
theorem MvSt.did3 (h : MvSt base W5 u v f g l x11 x12 x25 x26 x27 x28 U V d1 d2 wc R) (hb : base ≤ W5.heap.size) (hl : l 7 = false) {V' : Nat → Sl} (ho : Own3 wc' wc.heap.size V' g) (hk : Below wc.heap.size wc wc') :
    MvSt base W5 u v f g (upd l 3 true) x11 x12 x25 x26 x27 (.agg #[.slice (V' 0).a (V' 0).n (V' 0).c, .slice (V' 1).a (V' 1).n (V' 1).c, .slice (V' 2).a (V' 2).n (V' 2).c]) U V' d1 d2 wc' (upd R 1 (some (tOwn base V' g))) :=
  ⟨h.res.copied (h.size hb) ho hk 1, h.s0, h.s1, h.s2, fun _ => ⟨rfl, rfl⟩, h.s4, fun h4 => by
    have := h.s5 h4
    rw [hl] at this
    simp only [upd]
    simpa [hl] using this, h.o6, fun _ => rfl, h.o4, h.o5⟩
theorem MvSt.did4 (h : MvSt base W5 u v f g l x11 x12 x25 x26 x27 x28 U V d1 d2 wc R) (hb : base ≤ W5.heap.size) (hl : l 6 = false) :
    MvSt base W5 u v f g (upd l 4 true) (.pointer (some ⟨wc.heap.size, 0, none⟩)) x12 x25 x26 x27 x28 U V wc.heap.size d2 (wc.alloc (.cells #[.slice (noSl 0).a (noSl 0).n (noSl 0).c, .slice (noSl 1).a (noSl 1).n (noSl 1).c, .slice (noSl 2).a (noSl 2).n (noSl 2).c] 25)) (upd R 2 (some (tBox wc.heap.size noSl))) :=
  ⟨h.res.boxed (h.size hb) noSl 2, h.s0, h.s1, h.s2, h.s3, fun _ => ⟨rfl, by simp [upd, hl]⟩, h.s5, (fun h6 => by rw [show upd l 4 true 6 = l 6 from rfl, hl] at h6; cases h6), h.o7, fun _ => rfl, h.o5⟩
theorem MvSt.did5 (h : MvSt base W5 u v f g l x11 x12 x25 x26 x27 x28 U V d1 d2 wc R) (hb : base ≤ W5.heap.size) (hl : l 7 = false) :
    MvSt base W5 u v f g (upd l 5 true) x11 (.pointer (some ⟨wc.heap.size, 0, none⟩)) x25 x26 x27 x28 U V d1 wc.heap.size (wc.alloc (.cells #[.slice (noSl 0).a (noSl 0).n (noSl 0).c, .slice (noSl 1).a (noSl 1).n (noSl 1).c, .slice (noSl 2).a (noSl 2).n (noSl 2).c] 25)) (upd R 3 (some (tBox wc.heap.size noSl))) :=
  ⟨h.res.boxed (h.size hb) noSl 3, h.s0, h.s1, h.s2, h.s3, h.s4, fun _ => ⟨rfl, by simp [upd, hl]⟩, h.o6, (fun h7 => by rw [show upd l 5 true 7 = l 7 from rfl, hl] at h7; cases h7), h.o4, fun _ => rfl⟩
theorem MvSt.did6 (h : MvSt base W5 u v f g l x11 x12 x25 x26 x27 x28 U V d1 d2 wc R) (hb : base ≤ W5.heap.size) (h1 : l 1 = true) (h4 : l 4 = true) :
    MvSt base W5 u v f g (upd l 6 true) x11 x12 x25 x26 x27 x28 U V d1 d2 (put3 wc d1 U) (upd R 2 (some (tBox d1 U))) :=
  ⟨h.res.put (h.size hb) (h.s4 h4).2 U, h.s0, h.s1, h.s2, h.s3, fun _ => ⟨(h.s4 h4).1, rfl⟩, h.s5, fun _ => h1, h.o7, fun _ => h4, h.o5⟩
theorem MvSt.did7 (h : MvSt base W5 u v f g l x11 x12 x25 x26 x27 x28 U V d1 d2 wc R) (hb : base ≤ W5.heap.size) (h3 : l 3 = true) (h5 : l 5 = true) :
    MvSt base W5 u v f g (upd l 7 true) x11 x12 x25 x26 x27 x28 U V d1 d2 (put3 wc d2 V) (upd R 3 (some (tBox d2 V))) :=
  ⟨h.res.put (h.size hb) (h.s5 h5).2 V, h.s0, h.s1, h.s2, h.s3, h.s4, fun _ => ⟨(h.s5 h5).1, rfl⟩, h.o6, fun _ => h3, h.o4, fun _ => h5⟩
end
def MvInv (base : Nat) (W5 : World) (u v : Nat → Sl) (f g : Nat → List Int) (a0 : Act) (l : Nat → Bool) (a : Act) (wc : World) : Prop :=
  ∃ x11 x12 x25 x26 x27 x28 U V d1 d2 R, a = Put6 a0 x11 x12 x25 x26 x27 x28 ∧ MvSt base W5 u v f g l x11 x12 x25 x26 x27 x28 U V d1 d2 wc R

theorem five_on {w W5 : World} {u v : Nat → Sl} {k : Nat} (h : W5 = (((((w.alloc (.cells #[.slice (u 0).a (u 0).n (u 0).c, .slice (u 1).a (u 1).n (u 1).c, .slice (u 2).a (u 2).n (u 2).c] 25)).alloc (.cells #[.slice (v 0).a (v 0).n (v 0).c, .slice (v 1).a (v 1).n (v 1).c, .slice (v 2).a (v 2).n (v 2).c] 25)).alloc (.cells #[.int .i64 k] 3)).alloc (.cells #[.slice none 0 0, .slice none 0 0, .slice none 0 0] 25)).alloc (.cells #[.slice none 0 0, .slice none 0 0, .slice none 0 0] 25))) :
    Box3 W5 w.heap.size u ∧ Box3 W5 (w.heap.size + 1) v ∧ W5.cell? ⟨w.heap.size + 1 + 1, 0, none⟩ = some (.int .i64 k) ∧ Box3 W5 (w.heap.size + 1 + 1 + 1) noSl ∧ Box3 W5 (w.heap.size + 1 + 1 + 1 + 1) noSl ∧ Below w.heap.size w W5 ∧ W5.heap.size = w.heap.size + 5 := by
  have b5 := Box3.new (w.alloc (.cells #[.slice (u 0).a (u 0).n (u 0).c, .slice (u 1).a (u 1).n (u 1).c, .slice (u 2).a (u 2).n (u 2).c] 25)) v 25
  have c6 := World.alloc_heap_new ((w.alloc (.cells #[.slice (u 0).a (u 0).n (u 0).c, .slice (u 1).a (u 1).n (u 1).c, .slice (u 2).a (u 2).n (u 2).c] 25)).alloc (.cells #[.slice (v 0).a (v 0).n (v 0).c, .slice (v 1).a (v 1).n (v 1).c, .slice (v 2).a (v 2).n (v 2).c] 25)) (.cells #[.int .i64 k] 3)
  have b8 := Box3.new (((w.alloc (.cells #[.slice (u 0).a (u 0).n (u 0).c, .slice (u 1).a (u 1).n (u 1).c, .slice (u 2).a (u 2).n (u 2).c] 25)).alloc (.cells #[.slice (v 0).a (v 0).n (v 0).c, .slice (v 1).a (v 1).n (v 1).c, .slice (v 2).a (v 2).n (v 2).c] 25)).alloc (.cells #[.int .i64 k] 3)) noSl 25
  have b9 := Box3.new ((((w.alloc (.cells #[.slice (u 0).a (u 0).n (u 0).c, .slice (u 1).a (u 1).n (u 1).c, .slice (u 2).a (u 2).n (u 2).c] 25)).alloc (.cells #[.slice (v 0).a (v 0).n (v 0).c, .slice (v 1).a (v 1).n (v 1).c, .slice (v 2).a (v 2).n (v 2).c] 25)).alloc (.cells #[.int .i64 k] 3)).alloc (.cells #[.slice (noSl 0).a (noSl 0).n (noSl 0).c, .slice (noSl 1).a (noSl 1).n (noSl 1).c, .slice (noSl 2).a (noSl 2).n (noSl 2).c] 25)) noSl 25
  simp only [World.size_alloc] at b5 c6 b8 b9
  have d6 := cell_of_row _ _ 0 _ _ _ c6
  rw [h]
  refine ⟨((((Box3.new w u 25).alloc _).alloc _).alloc _).alloc _, ((b5.alloc _).alloc _).alloc _, ?_, b8.alloc _, b9, ((((two_below w _ _).alloc (by simp; omega) _).alloc (by simp; omega) _).alloc (by simp; omega) _), by simp⟩
  refine (World.cell?_of_block (a := ⟨w.heap.size + 1 + 1, 0, none⟩) ((Below.heap_alloc _ _ _ (by simp)).trans (Below.heap_alloc _ _ _ (by simp)))).trans d6

set_option maxRecDepth 100000 in
set_option maxHeartbeats 4000000 in
theorem move_ok (B : Nat) (u v : Nat → Sl) (f g : Nat → List Int) (k m : Nat) (hk : k < 3) (w : World) (h : L3 w B u f) (h' : L3 w B v g) (hB : B ≤ w.heap.size) (hn : ∀ j, j < 3 → (u j).n ≤ 2000000) (hn' : ∀ j, j < 3 → (v j).n ≤ 2000000) (hm : m ≤ 9223372036854775807) :
    Calls Tryz.prog 114 #[(.agg #[.slice (u 0).a (u 0).n (u 0).c, .slice (u 1).a (u 1).n (u 1).c, .slice (u 2).a (u 2).n (u 2).c]), (.agg #[.slice (v 0).a (v 0).n (v 0).c, .slice (v 1).a (v 1).n (v 1).c, .slice (v 2).a (v 2).n (v 2).c]), .int .i64 k, .int .i64 m] w (MoveOut w (upd f k ((f k).take ((f k).length - m))) (upd g k (g k ++ ((f k).drop ((f k).length - m)).reverse)) 0) := by
  have h0 : (0 : Int) ≤ k := by omega
  have h3 : (k : Int) < 3 := by omega
  have hm0 : decide ((m : Int) < 0) = false := by simp
  refine (callsIn_wide (n := 1)).1 ?_
  refine callsIn_of_wp_marks Tryz.func114 rfl trivial ?_ rfl
  simp only [Tryz.ntmps114, List.size_toArray, List.length_cons, List.length_nil, Nat.reduceAdd, Nat.reduceSub, Array.replicate_succ, Array.replicate_zero, List.push_toArray, List.append_toArray, List.nil_append, List.cons_append]
  gi_wp2_with fail
  refine ⟨trivial, (callsIn_wide.2 (class_yes _ _ h0 h3)).mono ?_⟩
  rintro e w' ⟨rfl, rfl⟩
  gi_wp2_with fail
  obtain ⟨W5, hW5⟩ : ∃ W5, W5 = (((((w.alloc (.cells #[.slice (u 0).a (u 0).n (u 0).c, .slice (u 1).a (u 1).n (u 1).c, .slice (u 2).a (u 2).n (u 2).c] 25)).alloc (.cells #[.slice (v 0).a (v 0).n (v 0).c, .slice (v 1).a (v 1).n (v 1).c, .slice (v 2).a (v 2).n (v 2).c] 25)).alloc (.cells #[.int .i64 k] 3)).alloc (.cells #[.slice none 0 0, .slice none 0 0, .slice none 0 0] 25)).alloc (.cells #[.slice none 0 0, .slice none 0 0, .slice none 0 0] 25)) := ⟨_, rfl⟩
  rw [← hW5]
  obtain ⟨B4, B5, B6, B8, B9, BW0, HS5⟩ := five_on hW5
  have BW := Lib.hid BW0
  have HL : Hid (∀ W, Below W5.heap.size W5 W → Calls Tryz.prog 116 #[(.agg #[.slice (u 0).a (u 0).n (u 0).c, .slice (u 1).a (u 1).n (u 1).c, .slice (u 2).a (u 2).n (u 2).c])] W (COut W f)) := Lib.hid fun W hW => copied_any B u f W (h.over (BW.out.trans (hW.mono BW.out.size)) hB) (by have := BW.out.size; have := hW.size; omega) hn
  have HL' : Hid (∀ W, Below W5.heap.size W5 W → Calls Tryz.prog 116 #[(.agg #[.slice (v 0).a (v 0).n (v 0).c, .slice (v 1).a (v 1).n (v 1).c, .slice (v 2).a (v 2).n (v 2).c])] W (COut W g)) := Lib.hid fun W hW => copied_any B v g W (h'.over (BW.out.trans (hW.mono BW.out.size)) hB) (by have := BW.out.size; have := hW.size; omega) hn'
  clear BW0
  clear hW5
  refine wpIn_region_from (by kernel_rfl) (MvInv W5.heap.size W5 u v f g) ?dag ?start ?step ?done
  case dag => exact dag_of (by kernel_rfl)
  case start => exact ⟨undef, undef, undef, undef, undef, undef, noSl, noSl, 0, 0, _, (by simp only [Put6, Act.put, List.setIfInBounds_toArray, List.set_cons_succ, List.set_cons_zero]), MvSt.start _ _ _ _ _ _⟩
  case step =>
    rintro i o l a wc ho ⟨x11, x12, x25, x26, x27, x28, U, V, d1, d2, R, rfl, hs⟩ hl haft K hK
    have hi : i < 8 := (Array.getElem?_eq_some_iff.1 ho).1
    refine wpOpIn_of ho ?_
    rcases (show i = 0 ∨ i = 1 ∨ i = 2 ∨ i = 3 ∨ i = 4 ∨ i = 5 ∨ i = 6 ∨ i = 7 by omega) with rfl | rfl | rfl | rfl | rfl | rfl | rfl | rfl
    · obtain rfl := Option.some.inj ho
      have b4 := B4.below hs.res.bel B4.lt
      have c0 := b4.cell 0 (by decide)
      have c1 := b4.cell 1 (by decide)
      have c2 := b4.cell 2 (by decide)
      clear b4 ho haft hi B4 B5
      simp only [Put6, Act.put]
      go_simp
      exact hK _ _ ⟨x11, x12, (.agg #[.slice (u 0).a (u 0).n (u 0).c, .slice (u 1).a (u 1).n (u 1).c, .slice (u 2).a (u 2).n (u 2).c]), x26, x27, x28, U, V, d1, d2, R, (by simp only [Put6, Act.put, List.setIfInBounds_toArray, List.set_cons_succ, List.set_cons_zero]), hs.did0⟩
    · obtain rfl := Option.some.inj ho
      have e0 := hs.s0 (haft ⟨0, .data⟩ (by simp) rfl)
      subst e0
      have hl6 : l 6 = false := by
        cases e : l 6
        · rfl
        · rw [hs.o6 e] at hl; cases hl
      clear ho haft hi B4 B5
      simp only [Put6, Act.put]
      go_simp
      refine ⟨trivial, (callsIn_wide.2 (HL.out wc hs.res.bel)).mono ?_⟩
      rintro e w2 ⟨U', rfl, ho, hb⟩
      exact hK _ _ ⟨x11, x12, (.agg #[.slice (u 0).a (u 0).n (u 0).c, .slice (u 1).a (u 1).n (u 1).c, .slice (u 2).a (u 2).n (u 2).c]), (.agg #[.slice (U' 0).a (U' 0).n (U' 0).c, .slice (U' 1).a (U' 1).n (U' 1).c, .slice (U' 2).a (U' 2).n (U' 2).c]), x27, x28, U', V, d1, d2, _, (by simp only [Put6, Act.put, List.setIfInBounds_toArray, List.set_cons_succ, List.set_cons_zero]), hs.did1 (Nat.le_refl _) hl6 ho hb⟩
    · obtain rfl := Option.some.inj ho
      have b5 := B5.below hs.res.bel B5.lt
      have c0 := b5.cell 0 (by decide)
      have c1 := b5.cell 1 (by decide)
      have c2 := b5.cell 2 (by decide)
      clear b5 ho haft hi B4 B5
      simp only [Put6, Act.put]
      go_simp
      exact hK _ _ ⟨x11, x12, x25, x26, (.agg #[.slice (v 0).a (v 0).n (v 0).c, .slice (v 1).a (v 1).n (v 1).c, .slice (v 2).a (v 2).n (v 2).c]), x28, U, V, d1, d2, R, (by simp only [Put6, Act.put, List.setIfInBounds_toArray, List.set_cons_succ, List.set_cons_zero]), hs.did2⟩
    · obtain rfl := Option.some.inj ho
      have e0 := hs.s2 (haft ⟨2, .data⟩ (by simp) rfl)
      subst e0
      have hl7 : l 7 = false := by
        cases e : l 7
        · rfl
        · rw [hs.o7 e] at hl; cases hl
      clear ho haft hi B4 B5
      simp only [Put6, Act.put]
      go_simp
      refine ⟨trivial, (callsIn_wide.2 (HL'.out wc hs.res.bel)).mono ?_⟩
      rintro e w2 ⟨V', rfl, ho, hb⟩
      exact hK _ _ ⟨x11, x12, x25, x26, (.agg #[.slice (v 0).a (v 0).n (v 0).c, .slice (v 1).a (v 1).n (v 1).c, .slice (v 2).a (v 2).n (v 2).c]), (.agg #[.slice (V' 0).a (V' 0).n (V' 0).c, .slice (V' 1).a (V' 1).n (V' 1).c, .slice (V' 2).a (V' 2).n (V' 2).c]), U, V', d1, d2, _, (by simp only [Put6, Act.put, List.setIfInBounds_toArray, List.set_cons_succ, List.set_cons_zero]), hs.did3 (Nat.le_refl _) hl7 ho hb⟩
    · obtain rfl := Option.some.inj ho
      have hl6 : l 6 = false := by
        cases e : l 6
        · rfl
        · rw [hs.o4 e] at hl; cases hl
      clear ho haft hi B4 B5
      simp only [Put6, Act.put]
      go_simp
      exact hK _ _ ⟨.pointer (some ⟨wc.heap.size, 0, none⟩), x12, x25, x26, x27, x28, U, V, _, d2, _, (by simp only [Put6, Act.put, List.setIfInBounds_toArray, List.set_cons_succ, List.set_cons_zero]), hs.did4 (Nat.le_refl _) hl6⟩
    · obtain rfl := Option.some.inj ho
      have hl7 : l 7 = false := by
        cases e : l 7
        · rfl
        · rw [hs.o5 e] at hl; cases hl
      clear ho haft hi B4 B5
      simp only [Put6, Act.put]
      go_simp
      exact hK _ _ ⟨x11, .pointer (some ⟨wc.heap.size, 0, none⟩), x25, x26, x27, x28, U, V, d1, _, _, (by simp only [Put6, Act.put, List.setIfInBounds_toArray, List.set_cons_succ, List.set_cons_zero]), hs.did5 (Nat.le_refl _) hl7⟩
    · obtain rfl := Option.some.inj ho
      have l1 : l 1 = true := haft ⟨1, .data⟩ (by simp) rfl
      have l4 : l 4 = true := haft ⟨4, .data⟩ (by simp) rfl
      obtain ⟨e1, r1⟩ := hs.s1 l1
      obtain ⟨e4, r4⟩ := hs.s4 l4
      rw [hl] at r4
      have b := hs.res.box r4
      have c0 := b.cell 0 (by decide)
      have c1 := b.cell 1 (by decide)
      have c2 := b.cell 2 (by decide)
      have f0 := b.free 0
      have f1 := b.free 1
      have f2 := b.free 2
      have bl := b.lt
      have HS := Lib.hid (hs.did6 (Nat.le_refl _) l1 l4)
      subst e1 e4
      clear ho haft hi B4 B5 b
      simp only [Put6, Act.put]
      go_simp
      exact hK _ _ ⟨.pointer (some ⟨d1, 0, none⟩), x12, x25, (.agg #[.slice (U 0).a (U 0).n (U 0).c, .slice (U 1).a (U 1).n (U 1).c, .slice (U 2).a (U 2).n (U 2).c]), x27, x28, U, V, d1, d2, _, (by simp only [Put6, Act.put, List.setIfInBounds_toArray, List.set_cons_succ, List.set_cons_zero]), HS.out⟩
    · obtain rfl := Option.some.inj ho
      have l3 : l 3 = true := haft ⟨3, .data⟩ (by simp) rfl
      have l5 : l 5 = true := haft ⟨5, .data⟩ (by simp) rfl
      obtain ⟨e3, r3⟩ := hs.s3 l3
      obtain ⟨e5, r5⟩ := hs.s5 l5
      rw [hl] at r5
      have b := hs.res.box r5
      have c0 := b.cell 0 (by decide)
      have c1 := b.cell 1 (by decide)
      have c2 := b.cell 2 (by decide)
      have f0 := b.free 0
      have f1 := b.free 1
      have f2 := b.free 2
      have bl := b.lt
      have HS := Lib.hid (hs.did7 (Nat.le_refl _) l3 l5)
      subst e3 e5
      clear ho haft hi B4 B5 b
      simp only [Put6, Act.put]
      go_simp
      exact hK _ _ ⟨x11, .pointer (some ⟨d2, 0, none⟩), x25, x26, x27, (.agg #[.slice (V 0).a (V 0).n (V 0).c, .slice (V 1).a (V 1).n (V 1).c, .slice (V 2).a (V 2).n (V 2).c]), U, V, d1, d2, _, (by simp only [Put6, Act.put, List.setIfInBounds_toArray, List.set_cons_succ, List.set_cons_zero]), HS.out⟩
  case done =>
    rintro l a wc ⟨x11, x12, x25, x26, x27, x28, U, V, d1, d2, R, rfl, hs⟩ hall
    obtain ⟨e1, r1⟩ := hs.s1 (hall 1 (by simp))
    obtain ⟨e3, r3⟩ := hs.s3 (hall 3 (by simp))
    obtain ⟨e4, r4⟩ := hs.s4 (hall 4 (by simp))
    obtain ⟨e5, r5⟩ := hs.s5 (hall 5 (by simp))
    rw [if_pos (hall 6 (by simp))] at r4
    rw [if_pos (hall 7 (by simp))] at r5
    have HRS := Lib.hid hs.res
    have R1 := Lib.hid r1
    have R3 := Lib.hid r3
    have R4 := Lib.hid r4
    have R5 := Lib.hid r5
    have cc : wc.cell? ⟨w.heap.size + 1 + 1, 0, none⟩ = some (.int .i64 k) := (hs.res.bel.cell (p := ⟨w.heap.size + 1 + 1, 0, none⟩) (by rw [HS5]; show w.heap.size + 1 + 1 < _; omega)).trans B6
    have cu := (hs.res.box r4).cell k hk
    have zl1 := (hs.res.box r4).lt
    have zl2 : w.heap.size + 1 + 1 < wc.heap.size := by have := hs.res.bel.size; omega
    have hUn : (U k).n ≤ 2000000 := by
      have h1 := (hs.res.own r1).l3.len k hk
      have h2 := h.len k hk
      have h3 := hn k hk
      omega
    subst e1 e3 e4 e5
    clear hs hall r1 r3 r4 r5 B4 B5 B6
    simp only [Put6, Act.put, List.setIfInBounds_toArray, List.set_cons_succ, List.set_cons_zero]
    gi_wp2_with fail
    refine wpIn_wide.2 ?_
    obtain ⟨st, hst⟩ : ∃ st, st = (U k).n - m := ⟨_, rfl⟩
    have HT := Lib.hid hst
    have hsn : st ≤ (U k).n := by omega
    clear hst
    go_cut [13] from 29 to 39 (fun v wx => v = .int .i64 st ∧ ∃ q, wx = wc.drewN q)
    case first =>
      by_cases hmn : m ≤ (U k).n
      · have he : ((U k).n : Int) - m = st := by have := HT.out; omega
        go_quiet (fail)
        go_wp2_with fail
        go_meet
        exact ⟨rfl, _, rfl⟩
      · have he : (st : Int) = 0 := by have := HT.out; omega
        have he' : ((U k).n : Int) - (U k).n = 0 := by omega
        go_quiet (fail)
        go_wp2_with fail
        go_meet
        exact ⟨by rw [he], _, rfl⟩
    case rest =>
      obtain ⟨rfl, q, rfl⟩ := hcut
      gi_upto_region 5 with (fail)
      refine wpIn_wide.2 ?_
      go_cut [45] from 40 to 45 (fun v wx => v = .func (.func 136) #[] #[.pointer (some ⟨wc.heap.size, 0, none⟩)] ∧ ∃ (A : Option Addr) (c : Nat), wx = (wc.drewN q).alloc (.cells #[.slice A ((U k).n - st) c] 22) ∧ Hid (Row wc wc.heap.size A ((U k).n - st) ((f k).drop st) ∧ ∀ x, A = some x → (tOwn W5.heap.size U f).blk x.block))
      case first =>
        go_wp2_with fail
        · refine (backward_any _ _ _ _).mono ?_
          rintro e w2 ⟨rfl, rfl⟩
          go_wp2_with fail
          go_meet
          exact ⟨rfl, _, _, rfl, Lib.hid (tail_none (HRS.out.own R1.out) hk ‹(U k).c = st› hsn)⟩
        · refine (backward_any _ _ _ _).mono ?_
          rintro e w2 ⟨rfl, rfl⟩
          go_wp2_with fail
          go_meet
          exact ⟨rfl, _, _, rfl, Lib.hid (tail_some (HRS.out.own R1.out) hk hsn)⟩
      case rest =>
        obtain ⟨rfl, A, c, rfl, HA⟩ := hcut
        obtain ⟨xs, hxs⟩ : ∃ xs, xs = (f k).drop st := ⟨_, rfl⟩
        rw [← hxs] at HA
        have HXS := Lib.hid hxs
        clear hxs
        obtain ⟨wl, hwl⟩ : ∃ wl, wl = (wc.drewN q).alloc (.cells #[.slice A ((U k).n - st) c] 22) := ⟨_, rfl⟩
        have hlw : wl.heap.size = wc.heap.size + 1 := by rw [hwl]; simp
        have hbl : Below wc.heap.size wc wl := by rw [hwl]; exact (below_drawn (Below.refl _ _) q).alloc (Nat.le_refl _) _
        have hcl : wl.cell? ⟨wc.heap.size, 0, none⟩ = some (.slice A ((U k).n - st) c) := by
          rw [hwl]
          exact cell_of_row _ _ 0 _ _ _ (World.alloc_heap_new (wc.drewN q) (.cells #[.slice A ((U k).n - st) c] 22))
        have hb5 : W5.heap.size ≤ wc.heap.size := HRS.out.bel.size
        have RL := Lib.hid (HRS.out.next hb5 hbl)
        have hcb : ∀ r t, R r = some t → ∀ b, t.blk b → b < wc.heap.size := fun r t hr b hb => ((HRS.out.ok r t hr).2 b hb).2
        have ST := Lib.hid (MvI.start (k := k) RL.out R1.out R3.out R4.out R5.out hcb (by omega) (by omega) xs)
        have hzf : ∀ b, MvZ W5.heap.size U d1 wc.heap.size b → b < wl.heap.size := fun b hz => by
          rcases hz with hz | hz | hz | hz
          · omega
          · have := hcb 0 _ R1.out b hz; omega
          · have := hcb 2 _ R4.out b hz; omega
          · omega
        have HZF := Lib.hid hzf
        have CCL := Lib.hid ((hbl.cell (p := ⟨w.heap.size + 1 + 1, 0, none⟩) zl2).trans cc)
        rw [← hwl]
        have BG := Lib.hid (back_gives (MvZ W5.heap.size U d1 wc.heap.size) (fun _ => False) wc.heap.size wc.heap.size A ((U k).n - st) c xs wl (by omega) hcl (HA.out.1.below hbl) (by omega) (.inr (.inr (.inr rfl))) (fun x hx => .inr (.inl (HA.out.2 x hx))))
        clear hwl hcl hzf hcb
        gi_wp2_with fail
        refine range_givesZ (gf := 136) (lb := #[.pointer (some ⟨wc.heap.size, 0, none⟩)]) rfl (enters_of Tryz.func136 (by kernel_rfl) rfl) BG.out (fun _ => rfl) HZF.out (fun _ => False) (fun _ h => h.elim) (fun _ h => h.elim)
          (MvI W5.heap.size W5 wl (MvZ W5.heap.size U d1 wc.heap.size) g k d2 xs) (fun _ _ _ _ => False) (MvI.bides _ _ _ _ _ _ _ _) (fun _ _ _ _ _ _ h _ _ _ => h) ST.out ?round ?done ?stop
        case stop =>
          rintro D c M pre W _ _ _ h _
          exact h.elim
        case done =>
          rintro D M W hD hDW hM ⟨V', R', hL⟩ hdef
          have hnt : (U k).n - st = xs.length := by rw [HA.out.1.1]
          have hmv : ((downL ((U k).n - st)).map fun i => xs[i]?.getD 0) = xs.reverse := by rw [hnt]; exact down_map xs
          have hL' : MvL W5.heap.size W5 wl (MvZ W5.heap.size U d1 wc.heap.size) g k d2 xs.reverse M W V' R' := hmv ▸ hL
          have hU : Own3 W W5.heap.size U f := (RL.out.own R1.out).same (fun j x hj hx => hL'.hold.block _ (.inr (.inl ⟨j, x, hj, hx, rfl⟩)) ((RL.out.own R1.out).block j hj hx).2)
          have hb1 : Box3 W d1 U := (RL.out.box R4.out).same (hL'.hold.block d1 (.inr (.inr (.inl rfl))) (RL.out.box R4.out).lt) hL'.hold.size
          have cc : W.cell? ⟨w.heap.size + 1 + 1, 0, none⟩ = some (.int .i64 k) := hL'.hold.cell (.inl (by rw [HS5]; omega)) CCL.out
          have zl2 : w.heap.size + 1 + 1 < W.heap.size := by have := hL'.res.bel.size; omega
          have c1 := hb1.cell k hk
          have f1 := hb1.free k
          have l1 := hb1.lt
          have hcap : st ≤ (U k).c := by have := (hU.l3 k hk).2.1; omega
          have hcap2 : (U k).c ≤ 9223372036854775807 := by have := (hU.l3 k hk).2.2; unfold maxLen at this; omega
          have HL2 := Lib.hid hL'
          have HU := Lib.hid hU
          have HB1 := Lib.hid hb1
          have HD := Lib.hid hdef
          clear hL hL' hmv hU hb1 hdef
          dsimp only
          gi_upto_region 8 with (fail)
          refine wpIn_wide.2 ?_
          go_cut [] from 56 to 62 (fun wx => ∃ q, wx = (W.setCell ⟨d1, k, none⟩ (.slice (U k).a st (U k).c)).drewN q)
          case first =>
            go_region
            go_wp2_with fail
            go_meet
            exact ⟨1, rfl⟩
          case rest =>
            obtain ⟨q3, rfl⟩ := hcut
            have hDZ : ¬ MvZ W5.heap.size U d1 wc.heap.size D := fun hz => by have := HZF.out D hz; omega
            have hd1 : W5.heap.size ≤ d1 := ((HRS.out.ok 2 _ R4.out).2 d1 rfl).1
            obtain ⟨W3, hW3⟩ : ∃ W3, W3 = (W.setCell ⟨d1, k, none⟩ (.slice (U k).a st (U k).c)).drewN q3 := ⟨_, rfl⟩
            have ME := Lib.hid (move_end HL2.out hk HU.out HB1.out (.inr (.inr (.inl rfl))) hd1 (fun j x hj hx => ⟨.inr (.inl ⟨j, x, hj, hx, rfl⟩), fun e => HRS.out.apart 0 2 _ _ R1.out R4.out (by decide) x.block ⟨j, x, hj, hx, rfl⟩ e⟩) hsn HS5 BW.out B8 B9 HD.out hM hDZ hW3)
            rw [← hW3]
            have E1 := ME.out.e1
            have E2 := ME.out.e2
            have E8 := ME.out.e8
            have E9 := ME.out.e9
            have hsF : (f k).length - m = st := by
              have e1 := HU.out.l3.len k hk
              have e2 := HT.out
              omega
            have HSF := Lib.hid hsF
            have a0 := E1.cell 0 (by decide)
            have a1 := E1.cell 1 (by decide)
            have a2 := E1.cell 2 (by decide)
            have al := E1.lt
            have b0 := E2.cell 0 (by decide)
            have b1 := E2.cell 1 (by decide)
            have b2 := E2.cell 2 (by decide)
            have bl := E2.lt
            have p0 := E8.cell 0 (by decide)
            have p1 := E8.cell 1 (by decide)
            have p2 := E8.cell 2 (by decide)
            have pf0 := E8.free 0
            have pf1 := E8.free 1
            have pf2 := E8.free 2
            have pl := E8.lt
            have r0 := E9.cell 0 (by decide)
            have r1 := E9.cell 1 (by decide)
            have r2 := E9.cell 2 (by decide)
            have rf0 := E9.free 0
            have rf1 := E9.free 1
            have rf2 := E9.free 2
            have rl := E9.lt
            have hd2 : W5.heap.size ≤ d2 := ((HRS.out.ok 3 _ R5.out).2 d2 rfl).1
            have m1 : ¬ d2 = w.heap.size + 1 + 1 + 1 := by omega
            have m2 : ¬ d2 = w.heap.size + 1 + 1 + 1 + 1 := by omega
            have m3 : ¬ d1 = w.heap.size + 1 + 1 + 1 := by omega
            have m4 : ¬ d1 = w.heap.size + 1 + 1 + 1 + 1 := by omega
            clear E1 E2 E8 E9 hW3 c1 f1 l1 cc hsF hd2 hd1
            gi_upto_region 9 with (fail)
            refine wpIn_wide.2 ?_
            go_cut [10] from 63 to 64 (fun v wx => v = .int .i64 0 ∧ ∃ q, wx = (put3 (put3 W3 (w.heap.size + 1 + 1 + 1) (upd U k ⟨(U k).a, st, (U k).c⟩)) (w.heap.size + 1 + 1 + 1 + 1) V').drewN q)
            case first =>
              go_region
              go_wp2_with fail
              go_meet
              exact ⟨rfl, 1, rfl⟩
            case rest =>
              obtain ⟨rfl, q4, rfl⟩ := hcut
              gi_wp2_with fail
              refine leave_marksZ [D] _ (by simp) (fun E hE => by rw [List.mem_singleton.1 hE]; exact ME.out.def4 rfl) (fun W' g1 g2 g3 g4 g5 => ?_)
              obtain ⟨z1, z2, z3⟩ := ME.out.done rfl g1 g2 g3 g4 (fun b hb => g5 b (by simpa using hb))
              have y0 := z2.cell 0 (by decide)
              have y1 := z2.cell 1 (by decide)
              have y2 := z2.cell 2 (by decide)
              have x0 := z3.cell 0 (by decide)
              have x1 := z3.cell 1 (by decide)
              have x2 := z3.cell 2 (by decide)
              refine ⟨.tuple #[(.agg #[.slice (upd U k ⟨(U k).a, st, (U k).c⟩ 0).a (upd U k ⟨(U k).a, st, (U k).c⟩ 0).n (upd U k ⟨(U k).a, st, (U k).c⟩ 0).c, .slice (upd U k ⟨(U k).a, st, (U k).c⟩ 1).a (upd U k ⟨(U k).a, st, (U k).c⟩ 1).n (upd U k ⟨(U k).a, st, (U k).c⟩ 1).c, .slice (upd U k ⟨(U k).a, st, (U k).c⟩ 2).a (upd U k ⟨(U k).a, st, (U k).c⟩ 2).n (upd U k ⟨(U k).a, st, (U k).c⟩ 2).c]), (.agg #[.slice (V' 0).a (V' 0).n (V' 0).c, .slice (V' 1).a (V' 1).n (V' 1).c, .slice (V' 2).a (V' 2).n (V' 2).c]), .int .i64 0], ?_, upd U k ⟨(U k).a, st, (U k).c⟩, V', rfl, ?_⟩
              · clear a0 a1 a2 b0 b1 b2 p0 p1 p2 r0 r1 r2
                simp [results, Tryz.results114, go_sem, y0, y1, y2, x0, x1, x2]
              · rw [HSF.out, ← HXS.out]
                exact z1
        case round =>
          intro l M pre x W hl hM hlt hpre hI
          dsimp only [encB]
          gi_wp2_with fail
          refine ⟨KeptZ.refl _ _ _, fun o => ?_⟩
          obtain ⟨V', R', hL⟩ := hI
          have hlz : ¬ MvZ W5.heap.size U d1 wc.heap.size l := fun hz => by have := HZF.out l hz; omega
          have hL0 := hL.bides (hold_turned (W := W) o hlz) (fun j _ hj => World.putObj_heap_other (fun e => hj (e ▸ hM))) (fun j hj => .inl hj)
          obtain ⟨V0, hV0⟩ : ∃ V0, V0 = W.putObj l o := ⟨_, rfl⟩
          rw [← hV0] at hL0 ⊢
          have hplen : pre.length + 1 ≤ (U k).n - st := by have := hpre.length_le; rw [downL_length] at this; simpa using this
          have hvn : (V' k).n + 1 ≤ 4000000 := by
            have h1 := hL0.own.l3.len k hk
            rw [upd_same, List.length_append, List.length_map] at h1
            have h2 := h'.len k hk
            have h3 := hn' k hk
            omega
          obtain ⟨z, hz⟩ : ∃ z, z = xs[x]?.getD 0 := ⟨_, rfl⟩
          rw [← hz]
          have HZ' := Lib.hid hz
          have cc : V0.cell? ⟨w.heap.size + 1 + 1, 0, none⟩ = some (.int .i64 k) := hL0.hold.cell (.inl (by rw [HS5]; omega)) CCL.out
          have hcl : w.heap.size + 1 + 1 < W5.heap.size := by omega
          have X3 := hL0.box
          have far : ∀ x, (V' k).a = some x → ¬ (w.heap.size + 1 + 1 = x.block) ∧ ¬ (d2 = x.block) := fun x hx => by
            have h1 := (hL0.own.block k hk hx).1
            refine ⟨by omega, fun e => ?_⟩
            exact hL0.res.apart 1 3 _ _ hL0.r1 hL0.r3 (by decide) x.block ⟨k, x, hk, hx, rfl⟩ e.symm
          have hbig := hL0.big
          have HL0 := Lib.hid hL0
          clear hL hL0 hz hV0
          apply wpIn_block
          refine wpIn_region_from (by kernel_rfl) (MvRI V0 W5.heap.size k d2 (V' k) (g k ++ (pre.map fun i => xs[i]?.getD 0) ++ [z]) z) ?rdag ?rstart ?rstep ?rdone
          case rdag => exact dag_of (by kernel_rfl)
          case rstart => 
            refine ⟨undef, undef, undef, undef, undef, undef, undef, undef, ⟨none, 0, 0⟩, ?_, MvRd.start _ _ _ _ _ _ _ _ _⟩
            simp only [Put8, Act.put, List.setIfInBounds_toArray, List.set_cons_succ, List.set_cons_zero]
          case rdone =>
            rintro l' a' w' ⟨x48, x49, x50, x51, x52, x53, x54, x55, s, rfl, hs⟩ hall
            obtain ⟨w2, hc, rfl⟩ := hs.p3 (hall 8 (by simp))
            obtain ⟨hk1, V2, R2, hL2⟩ := HL0.out.moved hk hc
            refine ⟨hk1, V2, R2, ?_⟩
            rw [List.map_append, List.map_cons, List.map_nil, ← HZ'.out]
            exact hL2
          case rstep =>
            rintro i o' l' a' w' ho ⟨x48, x49, x50, x51, x52, x53, x54, x55, s, rfl, hs⟩ hl' haft K hK
            have hi : i < 9 := (Array.getElem?_eq_some_iff.1 ho).1
            rcases (show i = 0 ∨ i = 1 ∨ i = 2 ∨ i = 3 ∨ i = 4 ∨ i = 5 ∨ i = 6 ∨ i = 7 ∨ i = 8 by omega) with rfl | rfl | rfl | rfl | rfl | rfl | rfl | rfl | rfl
            · refine wpOpIn_of ho ?_
              obtain rfl := Option.some.inj ho
              have c1 : w'.cell? ⟨w.heap.size + 1 + 1, 0, none⟩ = some (.int .i64 k) := (World.cell?_of_block (a := ⟨w.heap.size + 1 + 1, 0, none⟩) (hs.old (hs.no8 (by decide) hl') (by omega) (fun x hx => (far x hx).1)).1).trans cc
              clear ho haft hi cc
              simp only [Put8, Act.put]
              go_simp
              exact hK _ _ ⟨.int .i64 k, x49, x50, x51, x52, x53, x54, x55, s, (by simp only [Put8, Act.put, List.setIfInBounds_toArray, List.set_cons_succ, List.set_cons_zero]), hs.did0⟩
            · refine wpOpIn_of ho ?_
              obtain rfl := Option.some.inj ho
              have c1 : w'.cell? ⟨w.heap.size + 1 + 1, 0, none⟩ = some (.int .i64 k) := (World.cell?_of_block (a := ⟨w.heap.size + 1 + 1, 0, none⟩) (hs.old (hs.no8 (by decide) hl') (by omega) (fun x hx => (far x hx).1)).1).trans cc
              clear ho haft hi cc
              simp only [Put8, Act.put]
              go_simp
              exact hK _ _ ⟨x48, .int .i64 k, x50, x51, x52, x53, x54, x55, s, (by simp only [Put8, Act.put, List.setIfInBounds_toArray, List.set_cons_succ, List.set_cons_zero]), hs.did1⟩
            · refine wpOpIn_of ho ?_
              obtain rfl := Option.some.inj ho
              have e1 := hs.s1 (haft ⟨1, .data⟩ (by simp) rfl)
              subst e1
              clear ho haft hi cc
              simp only [Put8, Act.put]
              go_simp
              exact hK _ _ ⟨x48, .int .i64 k, .pointer (some ⟨d2, k, none⟩), x51, x52, x53, x54, x55, s, (by simp only [Put8, Act.put, List.setIfInBounds_toArray, List.set_cons_succ, List.set_cons_zero]), hs.did2⟩
            · refine wpOpIn_of ho ?_
              obtain rfl := Option.some.inj ho
              have e2 := hs.s2 (haft ⟨2, .data⟩ (by simp) rfl)
              subst e2
              have c1 : w'.cell? ⟨d2, k, none⟩ = some (.slice (V' k).a (V' k).n (V' k).c) := (World.cell?_of_block (a := ⟨d2, k, none⟩) (hs.old (hs.no8 (by decide) hl') X3.lt (fun x hx => (far x hx).2)).1).trans (X3.cell k hk)
              clear ho haft hi cc
              simp only [Put8, Act.put]
              go_simp
              exact hK _ _ ⟨x48, x49, .pointer (some ⟨d2, k, none⟩), .slice (V' k).a (V' k).n (V' k).c, x52, x53, x54, x55, s, (by simp only [Put8, Act.put, List.setIfInBounds_toArray, List.set_cons_succ, List.set_cons_zero]), hs.did3⟩
            · refine wpOpIn_of ho ?_
              obtain rfl := Option.some.inj ho
              clear ho haft hi cc
              simp only [Put8, Act.put]
              go_simp
              exact hK _ _ ⟨x48, x49, x50, x51, .int .i64 z, x53, x54, x55, s, (by simp only [Put8, Act.put, List.setIfInBounds_toArray, List.set_cons_succ, List.set_cons_zero]), hs.did4⟩
            · refine wpOpIn_of ho ?_
              obtain rfl := Option.some.inj ho
              have e4 := hs.s4 (haft ⟨4, .data⟩ (by simp) rfl)
              have ew := hs.p0 hl'
              subst e4
              subst ew
              clear ho haft hi cc
              simp only [Put8, Act.put]
              go_simp
              exact hK _ _ ⟨x48, x49, x50, x51, .int .i64 z, .slice (some ⟨V0.heap.size, 0, none⟩) 1 1, x54, x55, s, (by simp only [Put8, Act.put, List.setIfInBounds_toArray, List.set_cons_succ, List.set_cons_zero]), hs.did5 hl'⟩
            · have eo := (Option.some.inj ho).symm
              have e3 := hs.s3 (haft ⟨3, .data⟩ (by rw [eo]; simp) rfl)
              have l5 := haft ⟨5, .data⟩ (by rw [eo]; simp) rfl
              obtain ⟨ew, e5⟩ := hs.p1 l5 hl'
              have h8 : l' 8 = false := hs.no8 (by decide) hl'
              subst e3 e5
              subst ew
              have RD : Res W5.heap.size W5 V0.drew R' := HL0.out.res.drewN 1
              have O1 := ((RD.own HL0.out.r1).alloc (.cells #[.int .i64 z] 3)).own k hk
              have L1 : Row (V0.drew.alloc (.cells #[.int .i64 z] 3)) (V0.heap.size + 1) (some ⟨V0.heap.size, 0, none⟩) 1 [z] := row_lit1 V0.drew z
              rw [upd_same] at O1
              refine wpOpIn_cat (c := 1) ho ?_ (.tmp 51) (.tmp 53) ?_ ?_ ?_ O1 L1 ?_ hvn ?_
              · rw [eo]
                rfl
              · rw [eo]
                rfl
              · simp only [Put8, Act.put, List.setIfInBounds_toArray, List.set_cons_succ, List.set_cons_zero]
                rfl
              · simp only [Put8, Act.put, List.setIfInBounds_toArray, List.set_cons_succ, List.set_cons_zero]
                rfl
              · simp
                omega
              · intro p' cp' w2 hc
                rw [eo]
                refine hK _ _ ⟨x48, x49, x50, .slice (V' k).a (V' k).n (V' k).c, x52, .slice (some ⟨V0.heap.size, 0, none⟩) 1 1, .slice p' ((V' k).n + 1) cp', x55, ⟨p', (V' k).n + 1, cp'⟩, ?_, hs.did6 l5 h8 hc⟩
                simp only [Put8, Act.put, List.setIfInBounds_toArray, List.set_cons_succ, List.set_cons_zero, List.getElem_toArray, List.getElem_cons_succ, List.getElem_cons_zero]
            · refine wpOpIn_of ho ?_
              obtain rfl := Option.some.inj ho
              have e0 := hs.s0_ (haft ⟨0, .data⟩ (by simp) rfl)
              subst e0
              clear ho haft hi cc
              simp only [Put8, Act.put]
              go_simp
              exact hK _ _ ⟨.int .i64 k, x49, x50, x51, x52, x53, x54, .pointer (some ⟨d2, k, none⟩), s, (by simp only [Put8, Act.put, List.setIfInBounds_toArray, List.set_cons_succ, List.set_cons_zero]), hs.did7⟩
            · refine wpOpIn_of ho ?_
              obtain rfl := Option.some.inj ho
              have hall : ∀ j, j < 8 → l' j = true := fun j hj => by
                match j, hj with
                | 0, _ => exact haft ⟨0, .phase⟩ (by simp) rfl
                | 1, _ => exact haft ⟨1, .phase⟩ (by simp) rfl
                | 2, _ => exact haft ⟨2, .phase⟩ (by simp) rfl
                | 3, _ => exact haft ⟨3, .phase⟩ (by simp) rfl
                | 4, _ => exact haft ⟨4, .phase⟩ (by simp) rfl
                | 5, _ => exact haft ⟨5, .phase⟩ (by simp) rfl
                | 6, _ => exact haft ⟨6, .phase⟩ (by simp) rfl
                | 7, _ => exact haft ⟨7, .data⟩ (by simp) rfl
              have e7 := hs.s7 (hall 7 (by decide))
              have e6 := (hs.p2 (hall 6 (by decide)) hl').2
              have hold := hs.old hl' X3.lt (fun x hx => (far x hx).2)
              have X4 := X3.same hold.1 hold.2
              have c1 := X4.cell k hk
              have f1 := X4.free k
              have l1 := X4.lt
              subst e7 e6
              clear ho haft hi cc hold X4
              simp only [Put8, Act.put]
              go_simp
              exact hK _ _ ⟨x48, x49, x50, x51, x52, x53, .slice s.a s.n s.c, .pointer (some ⟨d2, k, none⟩), s, (by simp only [Put8, Act.put, List.setIfInBounds_toArray, List.set_cons_succ, List.set_cons_zero]), hs.did8 hall hl'⟩
end Go.Proofs.YtdmclfolooiccaaGreatDoor.Ls
