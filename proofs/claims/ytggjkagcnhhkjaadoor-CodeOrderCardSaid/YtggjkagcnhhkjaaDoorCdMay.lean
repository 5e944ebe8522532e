/-
  An operation's numbers; whether it may be; one more digit.
-/
import Derived.Test.YtggjkagcnhhkjaaDoorCdSigns
import Derived.Deep.QuietTactic
import Derived.BigQuiet
namespace Go.Proofs.YtggjkagcnhhkjaaDoor.Cd
open Go.Proofs.YtggjkagcnhhkjaaDoor Go.Proofs.YtggjkagcnhhkjaaDoor.Rt
open Go.RowKit
set_option maxRecDepth 100000

/-- An operation's value. -/
def opv (x : O4) : Value := .agg #[.int .i64 x.k, .int .i64 x.a, .int .i64 x.b, .int .i64 x.c]
theorem numbers_any (k a b c : Int) (w : World) : Calls Tryd.prog 20 #[.agg #[.int .i64 k, .int .i64 a, .int .i64 b, .int .i64 c]] w fun e w' => e = .returned (.agg #[.int .i64 a, .int .i64 b, .int .i64 c]) ∧ Below w.heap.size w w' := by
  go_enter Tryd.func20, Tryd.ntmps20
  go_wp2
  refine bodyPost_ret (v := .agg #[.int .i64 a, .int .i64 b, .int .i64 c]) (by simp [results, Tryd.results20, go_sem]) rfl ⟨rfl, ?_⟩
  exact ((Below.refl _ w).alloc (Nat.le_refl _) _).alloc (by simp) _

/-- One more digit. -/
def OkD (n r : Int) : Prop := 48 ≤ r ∧ r ≤ 57 ∧ 10 * n + (r - 48) ≤ 999
instance (n r : Int) : Decidable (OkD n r) := by unfold OkD; infer_instance
def LOut (w : World) (n r : Int) (e : Ending) (w' : World) : Prop := w = w' ∧ ((OkD n r ∧ e = .returned (.int .i64 (10 * n + (r - 48)))) ∨ (¬ OkD n r ∧ Panics e))
theorem longer_any (n r : Int) (w : World) (hn : 0 ≤ n ∧ n ≤ 999) (hr : 0 ≤ r ∧ r ≤ 2147483647) : Calls Tryd.prog 43 #[.int .i64 n, .int .i32 r] w (LOut w n r) := by
  obtain ⟨hn0, hn1⟩ := hn
  obtain ⟨hr0, hr1⟩ := hr
  by_cases h1 : r < 48
  · go_enter Tryd.func43, Tryd.ntmps43
    go_wp2
    exact ⟨rfl, rfl, .inr ⟨fun h => by have := h.1; omega, rfl⟩⟩
  · by_cases h2 : 57 < r
    · go_enter Tryd.func43, Tryd.ntmps43
      go_wp2
      exact ⟨rfl, rfl, .inr ⟨fun h => by have := h.2.1; omega, rfl⟩⟩
    · by_cases h3 : 999 < 10 * n + (r - 48)
      · go_enter Tryd.func43, Tryd.ntmps43
        go_wp2
        exact ⟨rfl, rfl, .inr ⟨fun h => by have := h.2.2; omega, rfl⟩⟩
      · go_enter Tryd.func43, Tryd.ntmps43
        go_wp2
        go_ret
        exact ⟨rfl, .inl ⟨⟨by omega, by omega, by omega⟩, rfl⟩⟩

def mayB (x : O4) : Bool := decide (may x)
theorem mayB_yes {x : O4} (h : may x) : mayB x = true := decide_eq_true h
theorem mayB_no {x : O4} (h : ¬ may x) : mayB x = false := decide_eq_false h
def nth (x : O4) : Nat → Int
  | 0 => x.a
  | 1 => x.b
  | _ => x.c
theorem may_of {x : O4} : may x ↔ (0 ≤ x.k ∧ x.k ≤ 6) ∧ ∀ j, j < 3 → numOk (many x.k) j (nth x j) := by
  constructor
  · rintro ⟨h1, h2, h3, h4, h5⟩
    refine ⟨⟨h1, h2⟩, fun j hj => ?_⟩
    match j, hj with
    | 0, _ => exact h3
    | 1, _ => exact h4
    | 2, _ => exact h5
  · rintro ⟨⟨h1, h2⟩, h⟩
    exact ⟨h1, h2, h 0 (by omega), h 1 (by omega), h 2 (by omega)⟩
theorem index3 (a b c : Int) (w : World) : ((Instr.index 42 (.agg #[.int .i64 a, .int .i64 b, .int .i64 c]) (.int .i64 0)).run Tryd.prog w = .ok (.int .i64 a) w) ∧ ((Instr.index 42 (.agg #[.int .i64 a, .int .i64 b, .int .i64 c]) (.int .i64 1)).run Tryd.prog w = .ok (.int .i64 b) w) ∧ ((Instr.index 42 (.agg #[.int .i64 a, .int .i64 b, .int .i64 c]) (.int .i64 2)).run Tryd.prog w = .ok (.int .i64 c) w) := ⟨by kernel_rfl, by kernel_rfl, by kernel_rfl⟩
theorem ok_step {N m : Nat} {f : Nat → Int} (h : ∀ j, j < m → numOk N j (f j)) (hm : numOk N m (f m)) : ∀ j, j < m + 1 → numOk N j (f j) := by
  intro j hj
  by_cases e : j = m
  · rw [e]
    exact hm
  · exact h j (by omega)
def MOut (w : World) (x : O4) (e : Ending) (w' : World) : Prop := e = .returned (.bool (mayB x)) ∧ Below w.heap.size w w'
theorem may_bad (k a b c : Int) (w : World) (h : ¬ (0 ≤ k ∧ k ≤ 6)) : Calls Tryd.prog 12 #[opv ⟨k, a, b, c⟩] w (MOut w ⟨k, a, b, c⟩) := by
  have hm : mayB ⟨k, a, b, c⟩ = false := mayB_no (fun hm => h (may_of.1 hm).1)
  obtain ⟨f1, f2, f3, f4⟩ := f_no h
  have HF := Lib.hid (And.intro f1 (And.intro f2 (And.intro f3 f4)))
  unfold opv
  clear f1 f2 f3 f4 h
  go_enter Tryd.func12, Tryd.ntmps12
  go_wp2_with fail
  refine (find_any _ _).mono ?_
  rintro e w1 ⟨rfl, hb1⟩
  rw [HF.out.1, HF.out.2.1, HF.out.2.2.1, HF.out.2.2.2]
  go_wp2
  go_ret
  exact ⟨by rw [hm]; rfl, (((Below.refl _ w).alloc (Nat.le_refl _) _).trans (hb1.mono (by simp))).alloc (by have := hb1.size; simp at this; omega) _⟩
set_option maxHeartbeats 1000000 in
theorem may_some (k a b c : Int) (w : World) (h : 0 ≤ k ∧ k ≤ 6) : Calls Tryd.prog 12 #[opv ⟨k, a, b, c⟩] w (MOut w ⟨k, a, b, c⟩) := by
  obtain ⟨f1, f2, f3, f4⟩ := f_yes h
  have HF := Lib.hid (And.intro f1 (And.intro f2 (And.intro f3 f4)))
  have HK := Lib.hid h
  unfold opv
  clear f1 f2 f3 f4 h
  obtain ⟨N, hN⟩ : ∃ N : Int, N = (many k : Int) := ⟨_, rfl⟩
  have hN3 : 0 ≤ N ∧ N ≤ 3 := by
    rw [hN]
    obtain ⟨h1, h2⟩ := HK.out
    rcases (show k = 0 ∨ k = 1 ∨ k = 2 ∨ k = 3 ∨ k = 4 ∨ k = 5 ∨ k = 6 by omega) with e | e | e | e | e | e | e <;> rw [e] <;> decide
  obtain ⟨hNa, hNb⟩ := hN3
  have HN := Lib.hid hN
  clear hN
  go_enter Tryd.func12, Tryd.ntmps12
  go_wp2_with fail
  refine (find_any _ _).mono ?_
  rintro e w1 ⟨rfl, hb1⟩
  rw [HF.out.1, HF.out.2.1, HF.out.2.2.1, HF.out.2.2.2, ← HN.out]
  have HX := Lib.hid ((Box.new w [.int .i64 k, .int .i64 a, .int .i64 b, .int .i64 c] 28).next hb1)
  have HB := Lib.hid (((Below.refl _ w).alloc (Nat.le_refl _) (.cells [Value.int .i64 k, .int .i64 a, .int .i64 b, .int .i64 c].toArray 28)).trans (hb1.mono (by simp)))
  clear hb1
  have c0 := HX.out.cel 0 _ rfl
  have c1 := HX.out.cel 1 _ rfl
  have c2 := HX.out.cel 2 _ rfl
  have c3 := HX.out.cel 3 _ rfl
  have cl := HX.out.lt
  go_wp2_with fail
  refine (numbers_any _ _ _ _ _).mono ?_
  rintro e w2 ⟨rfl, hb2⟩
  have HY := Lib.hid ((Box.new w1 [.int .i64 k, .int .i64 N] 39).next hb2)
  have HB2 := Lib.hid ((HB.out.alloc HB.out.size (.cells [Value.int .i64 k, .int .i64 N].toArray 39)).trans (hb2.mono (by have := HB.out.size; simp; omega)))
  clear hb2 c0 c1 c2 c3 cl HX HB
  have y1 := HY.out.cel 1 _ rfl
  have yl := HY.out.lt
  obtain ⟨i0, i1, i2⟩ := index3 a b c w2
  go_wp2_with fail
  go_loop [19] (fun i => ∃ m : Nat, m ≤ 3 ∧ i = .int .i64 m ∧ Hid (∀ j, j < m → numOk (many k) j (nth ⟨k, a, b, c⟩ j))) (fun i => 3 - (intOf i).toNat)
  case atStart => exact ⟨0, by omega, rfl, Lib.hid (fun j hj => absurd hj (by omega))⟩
  case round =>
    obtain ⟨m, hm, rfl, HR⟩ := hrel
    by_cases hlt : m < 3
    · have hm3 : m = 0 ∨ m = 1 ∨ m = 2 := by omega
      rcases hm3 with rfl | rfl | rfl
      · by_cases hok : numOk (many k) 0 a
        · have HO := Lib.hid hok
          obtain ⟨o1, o2, o3⟩ := hok
          by_cases hn : N ≤ 0
          · have o4 : (a != 0) = false := by rw [o3 (by have := HN.out; omega)]; rfl
            clear o3
            go_wp2
            go_round
            case rel => exact ⟨1, by omega, by rfl, Lib.hid (ok_step HR.out HO.out)⟩
            case measure => simp [intOf]
          · clear o3
            go_wp2
            go_round
            case rel => exact ⟨1, by omega, by rfl, Lib.hid (ok_step HR.out HO.out)⟩
            case measure => simp [intOf]
        · have hno := mayB_no (x := ⟨k, a, b, c⟩) (fun hm => hok ((may_of.1 hm).2 0 (by omega)))
          have HNO := Lib.hid hno
          clear hno
          by_cases q1 : a < 0
          · clear hok
            go_wp2
            go_ret
            exact ⟨by rw [HNO.out]; rfl, HB2.out⟩
          · by_cases q2 : 999 < a
            · clear hok
              go_wp2
              go_ret
              exact ⟨by rw [HNO.out]; rfl, HB2.out⟩
            · have q3 : N ≤ 0 ∧ a ≠ 0 := by
                have hNo := HN.out
                refine Decidable.byContradiction (fun hc => hok ⟨by omega, by omega, fun hn => ?_⟩)
                exact Decidable.byContradiction (fun hz => hc ⟨by omega, hz⟩)
              have q4 := q3.1
              have q5 : (a != 0) = true := by simpa using q3.2
              clear hok q3
              go_wp2
              go_ret
              exact ⟨by rw [HNO.out]; rfl, HB2.out⟩
      · by_cases hok : numOk (many k) 1 b
        · have HO := Lib.hid hok
          obtain ⟨o1, o2, o3⟩ := hok
          by_cases hn : N ≤ 1
          · have o4 : (b != 0) = false := by rw [o3 (by have := HN.out; omega)]; rfl
            clear o3
            go_wp2
            go_round
            case rel => exact ⟨2, by omega, by rfl, Lib.hid (ok_step HR.out HO.out)⟩
            case measure => simp [intOf]
          · clear o3
            go_wp2
            go_round
            case rel => exact ⟨2, by omega, by rfl, Lib.hid (ok_step HR.out HO.out)⟩
            case measure => simp [intOf]
        · have hno := mayB_no (x := ⟨k, a, b, c⟩) (fun hm => hok ((may_of.1 hm).2 1 (by omega)))
          have HNO := Lib.hid hno
          clear hno
          by_cases q1 : b < 0
          · clear hok
            go_wp2
            go_ret
            exact ⟨by rw [HNO.out]; rfl, HB2.out⟩
          · by_cases q2 : 999 < b
            · clear hok
              go_wp2
              go_ret
              exact ⟨by rw [HNO.out]; rfl, HB2.out⟩
            · have q3 : N ≤ 1 ∧ b ≠ 0 := by
                have hNo := HN.out
                refine Decidable.byContradiction (fun hc => hok ⟨by omega, by omega, fun hn => ?_⟩)
                exact Decidable.byContradiction (fun hz => hc ⟨by omega, hz⟩)
              have q4 := q3.1
              have q5 : (b != 0) = true := by simpa using q3.2
              clear hok q3
              go_wp2
              go_ret
              exact ⟨by rw [HNO.out]; rfl, HB2.out⟩
      · by_cases hok : numOk (many k) 2 c
        · have HO := Lib.hid hok
          obtain ⟨o1, o2, o3⟩ := hok
          by_cases hn : N ≤ 2
          · have o4 : (c != 0) = false := by rw [o3 (by have := HN.out; omega)]; rfl
            clear o3
            go_wp2
            go_round
            case rel => exact ⟨3, by omega, by rfl, Lib.hid (ok_step HR.out HO.out)⟩
            case measure => simp [intOf]
          · clear o3
            go_wp2
            go_round
            case rel => exact ⟨3, by omega, by rfl, Lib.hid (ok_step HR.out HO.out)⟩
            case measure => simp [intOf]
        · have hno := mayB_no (x := ⟨k, a, b, c⟩) (fun hm => hok ((may_of.1 hm).2 2 (by omega)))
          have HNO := Lib.hid hno
          clear hno
          by_cases q1 : c < 0
          · clear hok
            go_wp2
            go_ret
            exact ⟨by rw [HNO.out]; rfl, HB2.out⟩
          · by_cases q2 : 999 < c
            · clear hok
              go_wp2
              go_ret
              exact ⟨by rw [HNO.out]; rfl, HB2.out⟩
            · have q3 : N ≤ 2 ∧ c ≠ 0 := by
                have hNo := HN.out
                refine Decidable.byContradiction (fun hc => hok ⟨by omega, by omega, fun hn => ?_⟩)
                exact Decidable.byContradiction (fun hz => hc ⟨by omega, hz⟩)
              have q4 := q3.1
              have q5 : (c != 0) = true := by simpa using q3.2
              clear hok q3
              go_wp2
              go_ret
              exact ⟨by rw [HNO.out]; rfl, HB2.out⟩
    · obtain rfl : m = 3 := by omega
      have hyes := mayB_yes (x := ⟨k, a, b, c⟩) (may_of.2 ⟨HK.out, fun j hj => HR.out j hj⟩)
      have HY2 := Lib.hid hyes
      clear hyes
      go_wp2
      go_ret
      exact ⟨by rw [HY2.out]; rfl, HB2.out⟩
theorem may_any (x : O4) (w : World) : Calls Tryd.prog 12 #[opv x] w (MOut w x) := by
  obtain ⟨k, a, b, c⟩ := x
  by_cases h : 0 ≤ k ∧ k ≤ 6
  · exact may_some k a b c w h
  · exact may_bad k a b c w h
end Go.Proofs.YtggjkagcnhhkjaaDoor.Cd
