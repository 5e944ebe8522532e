/-
  HeadTells: any head may be, or not, and has the word, and any number the head, that the document says: for every head and every number, without a condition.
-/
import Derived.Test.YthfpblkhcodohaaFrame
import Derived.Test.YthfpblkhcodohaaRefUn
import Derived.Deep.RegionHeld3
namespace Go.Proofs.Ythfpblkhcodohaa.Tells
open Go.Proofs.Ythfpblkhcodohaa
open Go.ChangeShapes Go.WideShapes Go.ChangeAt Go.RowKit

/-- The three heads stand where they stood, and nothing old has turned. -/
def Keeps (a : World) (p q t : Nat) (u o e : Bool) (n b m : Int) (u' o' e' : Bool) (n' b' m' : Int) (w' : World) : Prop :=
  Below a.heap.size a w' ∧ t < w'.heap.size ∧ w'.cell? ⟨p, 0, none⟩ = some (.bool u) ∧ w'.cell? ⟨p, 1, none⟩ = some (.bool o) ∧ w'.cell? ⟨p, 2, none⟩ = some (.bool e) ∧ w'.cell? ⟨p, 3, none⟩ = some (.int .i64 n) ∧ w'.cell? ⟨p, 4, none⟩ = some (.int .i64 b) ∧ w'.cell? ⟨p, 5, none⟩ = some (.int .i64 m) ∧ w'.cell? ⟨q, 0, none⟩ = some (.bool u') ∧ w'.cell? ⟨q, 1, none⟩ = some (.bool o') ∧ w'.cell? ⟨q, 2, none⟩ = some (.bool e') ∧ w'.cell? ⟨q, 3, none⟩ = some (.int .i64 n') ∧ w'.cell? ⟨q, 4, none⟩ = some (.int .i64 b') ∧ w'.cell? ⟨q, 5, none⟩ = some (.int .i64 m') ∧ w'.cell? ⟨t, 0, none⟩ = some (.bool u') ∧ w'.cell? ⟨t, 1, none⟩ = some (.bool o') ∧ w'.cell? ⟨t, 2, none⟩ = some (.bool e') ∧ w'.cell? ⟨t, 3, none⟩ = some (.int .i64 n') ∧ w'.cell? ⟨t, 4, none⟩ = some (.int .i64 b') ∧ w'.cell? ⟨t, 5, none⟩ = some (.int .i64 m')
theorem keeps_step {a : World} {p q t : Nat} {u o e : Bool} {n b m : Int} {u' o' e' : Bool} {n' b' m' : Int} {w1 w2 : World} (pt : p ≤ t) (qt : q ≤ t) (hb : Below w1.heap.size w1 w2) (h : Keeps a p q t u o e n b m u' o' e' n' b' m' w1) :
    Keeps a p q t u o e n b m u' o' e' n' b' m' w2 := by
  obtain ⟨k0, k1, k⟩ := h
  have c := old_cell hb
  have s := hb.size
  have s0 := k0.size
  refine ⟨k0.trans (hb.mono s0), by omega, ?_⟩
  rw [c p 0 (by omega), c p 1 (by omega), c p 2 (by omega), c p 3 (by omega), c p 4 (by omega), c p 5 (by omega), c q 0 (by omega), c q 1 (by omega), c q 2 (by omega), c q 3 (by omega), c q 4 (by omega), c q 5 (by omega), c t 0 (by omega), c t 1 (by omega), c t 2 (by omega), c t 3 (by omega), c t 4 (by omega), c t 5 (by omega)]
  exact k
theorem keeps_start {w w1 w2 w3 w4 w5 : World} {u o e : Bool} {n b m : Int} {u' o' e' : Bool} {n' b' m' : Int}
    (hb1 : Below (w.alloc (.cells #[.bool u, .bool o, .bool e, .int .i64 n, .int .i64 b, .int .i64 m] 23)).heap.size (w.alloc (.cells #[.bool u, .bool o, .bool e, .int .i64 n, .int .i64 b, .int .i64 m] 23)) w1) (hb2 : Below w1.heap.size w1 w2) (hb3 : Below w2.heap.size w2 w3) (hb4 : Below w3.heap.size w3 w4)
    (hb5 : Below (w4.alloc (.cells #[.bool u', .bool o', .bool e', .int .i64 n', .int .i64 b', .int .i64 m'] 23)).heap.size (w4.alloc (.cells #[.bool u', .bool o', .bool e', .int .i64 n', .int .i64 b', .int .i64 m'] 23)) w5) : Keeps w w.heap.size w4.heap.size w5.heap.size u o e n b m u' o' e' n' b' m' (w5.alloc (.cells #[.bool u', .bool o', .bool e', .int .i64 n', .int .i64 b', .int .i64 m'] 23)) := by
  have s1 := hb1.size
  have s2 := hb2.size
  have s3 := hb3.size
  have s4 := hb4.size
  have s5 := hb5.size
  simp at s1 s5
  have e0 : ∀ k, (w5.alloc (.cells #[.bool u', .bool o', .bool e', .int .i64 n', .int .i64 b', .int .i64 m'] 23)).cell? ⟨w.heap.size, k, none⟩ = (w.alloc (.cells #[.bool u, .bool o, .bool e, .int .i64 n, .int .i64 b, .int .i64 m] 23)).cell? ⟨w.heap.size, k, none⟩ := fun k => by
    rw [World.cell?_alloc_lt (h := by show w.heap.size < w5.heap.size; omega), old_cell hb5 _ _ (by simp; omega), World.cell?_alloc_lt (h := by show w.heap.size < w4.heap.size; omega), old_cell hb4 _ _ (by omega), old_cell hb3 _ _ (by omega), old_cell hb2 _ _ (by omega), old_cell hb1 _ _ (by simp)]
  have e1 : ∀ k, (w5.alloc (.cells #[.bool u', .bool o', .bool e', .int .i64 n', .int .i64 b', .int .i64 m'] 23)).cell? ⟨w4.heap.size, k, none⟩ = (w4.alloc (.cells #[.bool u', .bool o', .bool e', .int .i64 n', .int .i64 b', .int .i64 m'] 23)).cell? ⟨w4.heap.size, k, none⟩ := fun k => by
    rw [World.cell?_alloc_lt (h := by show w4.heap.size < w5.heap.size; omega), old_cell hb5 _ _ (by simp)]
  refine ⟨((((((((Below.refl _ _).alloc (Nat.le_refl _) _).trans (hb1.mono (by simp))).trans (hb2.mono (by omega))).trans (hb3.mono (by omega))).trans (hb4.mono (by omega))).alloc (by omega) _).trans (hb5.mono (by simp; omega))).alloc (by omega) _, by simp, ?_⟩
  rw [e0, e0, e0, e0, e0, e0, e1, e1, e1, e1, e1, e1]
  simp [go_sem]
theorem keeps_drew {a : World} {p q t : Nat} {u o e : Bool} {n b m : Int} {u' o' e' : Bool} {n' b' m' : Int} {w1 : World} (h : Keeps a p q t u o e n b m u' o' e' n' b' m' w1) :
    Keeps a p q t u o e n b m u' o' e' n' b' m' w1.drew :=
  ⟨h.1.drew, h.2.1, h.2.2⟩
theorem core (u o e : Bool) (n b m : Int) (u' o' e' : Bool) (n' b' m' : Int) (x : Int) (v : Int) (c : Int) (is may : Bool) (w : World) (c1 : Hid (∀ w : World, Calls Try.prog 10 #[.agg #[.bool u, .bool o, .bool e, .int .i64 n, .int .i64 b, .int .i64 m]] w fun r w' => r = .returned (.tuple #[.int .i64 v, .int .i64 c]) ∧ Below w.heap.size w w')) (c2 : Hid (∀ w : World, Calls Try.prog 11 #[.agg #[.bool u, .bool o, .bool e, .int .i64 n, .int .i64 b, .int .i64 m]] w fun r w' => r = .returned (.tuple #[.int .i64 v, .int .i64 c]) ∧ Below w.heap.size w w')) (c3 : Hid (∀ w : World, Calls Try.prog 12 #[.int .i64 x] w fun r w' => r = .returned (.tuple #[.agg #[.bool u', .bool o', .bool e', .int .i64 n', .int .i64 b', .int .i64 m'], .bool is]) ∧ Below w.heap.size w w')) (c4 : Hid (∀ w : World, Calls Try.prog 13 #[.int .i64 x] w fun r w' => r = .returned (.tuple #[.agg #[.bool u', .bool o', .bool e', .int .i64 n', .int .i64 b', .int .i64 m'], .bool is]) ∧ Below w.heap.size w w')) (c5 : Hid (∀ w : World, Calls Try.prog 14 #[.agg #[.bool u, .bool o, .bool e, .int .i64 n, .int .i64 b, .int .i64 m]] w fun r w' => r = .returned (.bool may) ∧ Below w.heap.size w w')) (c6 : Hid (∀ w : World, Calls Try.prog 15 #[.agg #[.bool u, .bool o, .bool e, .int .i64 n, .int .i64 b, .int .i64 m]] w fun r w' => r = .returned (.bool may) ∧ Below w.heap.size w w')) :
    Calls Try.prog 3 #[.agg #[.bool u, .bool o, .bool e, .int .i64 n, .int .i64 b, .int .i64 m], .int .i64 x] w fun r w' => r = .returned (.bool true) ∧ Below w.heap.size w w' := by
  go_enter Try.func3, Try.ntmps3
  go_wp2_with fail
  refine (awake_yes _).mono ?_
  rintro r w1 ⟨rfl, hb1⟩
  have hc1 := old_cell hb1
  have hf1 := old_mark hb1
  have s1 := hb1.size
  simp at s1
  have z1_0_0 : w.heap.size < w1.heap.size := by omega
  go_wp2_with fail
  refine (c1.out _).mono ?_
  rintro r w2 ⟨rfl, hb2⟩
  have hc2 := old_cell hb2
  have hf2 := old_mark hb2
  have s2 := hb2.size
  have z2_0_0 : w.heap.size < w2.heap.size := by omega
  go_wp2_with fail
  refine (c2.out _).mono ?_
  rintro r w3 ⟨rfl, hb3⟩
  have hc3 := old_cell hb3
  have hf3 := old_mark hb3
  have s3 := hb3.size
  have z3_0_0 : w.heap.size < w3.heap.size := by omega
  go_wp2_with fail
  refine (c3.out _).mono ?_
  rintro r w4 ⟨rfl, hb4⟩
  have hc4 := old_cell hb4
  have hf4 := old_mark hb4
  have s4 := hb4.size
  have z4_0_0 : w.heap.size < w4.heap.size := by omega
  have z4_0_1 : w.heap.size < w4.heap.size + 1 := by omega
  go_wp2_with fail
  refine (c4.out _).mono ?_
  rintro r w5 ⟨rfl, hb5⟩
  have hc5 := old_cell hb5
  have hf5 := old_mark hb5
  have s5 := hb5.size
  simp at s5
  have z5_0_0 : w.heap.size < w5.heap.size := by omega
  have z5_0_1 : w.heap.size < w5.heap.size + 1 := by omega
  have z5_1_0 : w4.heap.size < w5.heap.size := by omega
  have z5_1_1 : w4.heap.size < w5.heap.size + 1 := by omega
  go_wp2
  go_region_held3 (fun w' => Below w.heap.size w w' ∧ w5.heap.size < w'.heap.size ∧ w'.cell? ⟨w.heap.size, 0, none⟩ = some (.bool u) ∧ w'.cell? ⟨w.heap.size, 1, none⟩ = some (.bool o) ∧ w'.cell? ⟨w.heap.size, 2, none⟩ = some (.bool e) ∧ w'.cell? ⟨w.heap.size, 3, none⟩ = some (.int .i64 n) ∧ w'.cell? ⟨w.heap.size, 4, none⟩ = some (.int .i64 b) ∧ w'.cell? ⟨w.heap.size, 5, none⟩ = some (.int .i64 m) ∧ w'.cell? ⟨w4.heap.size, 0, none⟩ = some (.bool u') ∧ w'.cell? ⟨w4.heap.size, 1, none⟩ = some (.bool o') ∧ w'.cell? ⟨w4.heap.size, 2, none⟩ = some (.bool e') ∧ w'.cell? ⟨w4.heap.size, 3, none⟩ = some (.int .i64 n') ∧ w'.cell? ⟨w4.heap.size, 4, none⟩ = some (.int .i64 b') ∧ w'.cell? ⟨w4.heap.size, 5, none⟩ = some (.int .i64 m') ∧ w'.cell? ⟨w5.heap.size, 0, none⟩ = some (.bool u') ∧ w'.cell? ⟨w5.heap.size, 1, none⟩ = some (.bool o') ∧ w'.cell? ⟨w5.heap.size, 2, none⟩ = some (.bool e') ∧ w'.cell? ⟨w5.heap.size, 3, none⟩ = some (.int .i64 n') ∧ w'.cell? ⟨w5.heap.size, 4, none⟩ = some (.int .i64 b') ∧ w'.cell? ⟨w5.heap.size, 5, none⟩ = some (.int .i64 m')) (first | exact keeps_drew (keeps_start hb1 hb2 hb3 hb4 hb5) | exact keeps_step (by omega) (by omega) ‹_› ‹_›) (first
    | (go_at_call 14; refine (c5.out _).mono ?_; rintro r w6 ⟨rfl, hb6⟩)
    | (go_at_call 15; refine (c6.out _).mono ?_; rintro r w6 ⟨rfl, hb6⟩))
  all_goals go_wp2
  all_goals go_ret
  all_goals
    rename_i k
    exact ⟨rfl, k.1⟩
theorem walk (u o e : Bool) (n b m : Int) (x : Int) (w : World) (x0 : -9223372036854775808 ≤ x) (x1 : x ≤ 9223372036854775807) :
    Calls Try.prog 3 #[.agg #[.bool u, .bool o, .bool e, .int .i64 n, .int .i64 b, .int .i64 m], .int .i64 x] w fun r w' => r = .returned (.bool true) ∧ Below w.heap.size w w' := by
  cases g : isWord x
  · cases h : mayB u o e n b m
    · exact core u o e n b m _ _ _ _ _ _ x _ _ _ _ w (Lib.hid fun w => pack_no u o e n b m w h) (Lib.hid fun w => rpack_no u o e n b m w h) (Lib.hid fun w => unpack_no x w g) (Lib.hid fun w => runpack_no x w x0 x1 g) (Lib.hid fun w => may_no u o e n b m w h) (Lib.hid fun w => rmay_no u o e n b m w h)
    · exact core u o e n b m _ _ _ _ _ _ x _ _ _ _ w (Lib.hid fun w => pack_yes u o e n b m w h) (Lib.hid fun w => rpack_yes u o e n b m w h) (Lib.hid fun w => unpack_no x w g) (Lib.hid fun w => runpack_no x w x0 x1 g) (Lib.hid fun w => may_yes u o e n b m w h) (Lib.hid fun w => rmay_yes u o e n b m w h)
  · obtain ⟨u', o', e', n', b', m', g', rfl, _⟩ := isWord_cases x g
    cases h : mayB u o e n b m
    · exact core u o e n b m _ _ _ _ _ _ _ _ _ _ _ w (Lib.hid fun w => pack_no u o e n b m w h) (Lib.hid fun w => rpack_no u o e n b m w h) (Lib.hid fun w => unpack_word _ _ _ _ _ _ w g') (Lib.hid fun w => runpack_word _ _ _ _ _ _ w g') (Lib.hid fun w => may_no u o e n b m w h) (Lib.hid fun w => rmay_no u o e n b m w h)
    · exact core u o e n b m _ _ _ _ _ _ _ _ _ _ _ w (Lib.hid fun w => pack_yes u o e n b m w h) (Lib.hid fun w => rpack_yes u o e n b m w h) (Lib.hid fun w => unpack_word _ _ _ _ _ _ w g') (Lib.hid fun w => runpack_word _ _ _ _ _ _ w g') (Lib.hid fun w => may_yes u o e n b m w h) (Lib.hid fun w => rmay_yes u o e n b m w h)

theorem cellsHead : Try.prog.cellsOf 23 = 6 := by kernel_rfl
set_option maxRecDepth 100000 in
theorem lifted (os : Os) (started : os.Started) (H : Type) (enc : TypeId × Value → H) :
    ReturnsInHanded {} Try.checked os 3 .any (Rows.headTellsSpec.pre6 enc Try.prog Try.f3 Rows.headTellsRow.domain false) (Rows.headTellsSpec.post enc Try.prog Try.f3 false true false false) := by
  refine returnsInHanded_of_change (C := Try.checked) own started (by kernel_rfl) Try.func3
    (ChangeSpec.witness6 (enc := enc) (C := Try.checked) false ⟨#[], #[.agg #[.bool false, .bool false, .bool false, .int .i64 0, .int .i64 0, .int .i64 0], .int .i64 0], []⟩ 8 (by kernel_rfl) (by kernel_rfl) (by kernel_rfl) (by kernel_rfl)) ?_
  intro W base args ds gs before hval0 hW hcnd _
  have hval : ∀ (j : Nat) t v, Try.f3.params[j]? = some t → args[j]? = some v → Value.okWide Try.prog W .any base t v := hval0
  have hW' := hW
  obtain ⟨p, q, hA0, hV, rfl, hfz, hnd⟩ := hW
  have hA : DataW.TrodAll enc Try.prog W 0 (fun _ => true) true Try.f3.params.toList args.toList ds p := hA0
  rw [Try.params3] at hA hval
  obtain ⟨v0, vs0, d0, ds0, p0, q0, hargs, rfl, rfl, h0, r0⟩ := trodAll_cons hA
  obtain ⟨v1, vs1, d1, ds1, p1, q1, rfl, rfl, rfl, h1, r1⟩ := trodAll_cons r0
  obtain ⟨rfl, rfl, rfl⟩ := trodAll_nil r1
  obtain rfl : args = #[v0, v1] := by cases args; simp_all
  obtain ⟨rfl, rfl⟩ := trodVars_none hV
  obtain ⟨u0, o0, e0, n0, b0, m0, rfl, rfl, rfl, x0, y0, z0⟩ := six_open Try.underlying23 cellsHead (by kernel_rfl) rfl Try.underlying4 Try.underlying3 (hval 0 23 v0 rfl rfl) h0
  obtain ⟨a1, rfl, rfl, rfl, x1⟩ := open_int Try.underlying3 (hval 1 3 v1 rfl rfl) h1
  clear hA0 hval0
  simp only [List.append_nil] at hW'
  have w1 := bounds_i64 x1
  refine (walk u0 o0 e0 n0 b0 m0 a1 W w1.1 w1.2).mono fun e W' ⟨he, hb⟩ => ?_
  subst he
  exact ⟨_, rfl, law_post hW' (fun _ _ _ => trodAll_cons_mk (shut_bool Try.underlying4 _) trodAll_mk0) (fun _ => trodAll_cons_mk (six_shut Try.underlying23 cellsHead (by kernel_rfl) rfl Try.underlying4 Try.underlying3 _ _ _ _ _ _ x0 y0 z0) (trodAll_cons_mk (shut_int Try.underlying3 x1) trodAll_mk0)) (fun _ => rfl) hb⟩

theorem over : Rows.headTellsRow.holds Try.pinned (OpenSpec.ofChange Rows.headTellsSpec) :=
  OpenClaim.holds_of_wide 3 Try.f3 rfl rfl rfl rfl rfl rfl rfl ⟨rfl, rfl, rfl, rfl, rfl⟩ rfl rfl rfl rfl rfl (by kernel_rfl) Try.func3 (by kernel_rfl)
    (of_decide_eq_true (by kernel_rfl)) (by unfold Func.isWrapper; first | (rw [if_pos (by decide +kernel)]; kernel_rfl) | (rw [if_neg (by decide +kernel)]; exact ⟨rfl, rfl⟩))
    (fun os started H enc _ => lifted os started H enc)

/-- The statement. -/
theorem proved : Rows.HeadTellsSaid :=
  over
#print axioms proved
end Go.Proofs.Ythfpblkhcodohaa.Tells
