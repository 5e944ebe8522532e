/-
  The reference's Same: are two lists of operations the same?
-/
import Derived.Test.YtggjkagcnhhkjaaDoorCdRdP
import Derived.Test.YtggjkagcnhhkjaaDoorCdMay
import Derived.RegionTactic
namespace Go.Proofs.YtggjkagcnhhkjaaDoor.Cd
open Go.Proofs.YtggjkagcnhhkjaaDoor Go.Proofs.YtggjkagcnhhkjaaDoor.Rt
open Go.RowKit
set_option maxRecDepth 100000

theorem op_same (k a b c : Int) (w : World) : (binOp .neq 28 (.agg #[.int .i64 k, .int .i64 a, .int .i64 b, .int .i64 c]) (.agg #[.int .i64 k, .int .i64 a, .int .i64 b, .int .i64 c])).run Tryd.prog w = .ok (.bool false) w := by
  go_simp
theorem op_other (k a b c k' a' b' c' : Int) (h : ¬ (k = k' ∧ a = a' ∧ b = b' ∧ c = c')) (w : World) : (binOp .neq 28 (.agg #[.int .i64 k, .int .i64 a, .int .i64 b, .int .i64 c]) (.agg #[.int .i64 k', .int .i64 a', .int .i64 b', .int .i64 c'])).run Tryd.prog w = .ok (.bool true) w := by
  by_cases h0 : k = k'
  · by_cases h1 : a = a'
    · by_cases h2 : b = b'
      · by_cases h3 : c = c'
        · exact absurd ⟨h0, h1, h2, h3⟩ h
        · clear h; go_simp
      · clear h; go_simp
    · clear h; go_simp
  · clear h; go_simp
theorem o4_iff {x y : O4} : (x.k = y.k ∧ x.a = y.a ∧ x.b = y.b ∧ x.c = y.c) ↔ x = y := by
  constructor
  · rintro ⟨h1, h2, h3, h4⟩
    cases x
    cases y
    simp_all
  · rintro rfl
    exact ⟨rfl, rfl, rfl, rfl⟩
instance (x y : O4) : Decidable (x = y) := decidable_of_iff _ o4_iff
def sameB (l m : List O4) : Bool := decide (l = m)
theorem eq_step {f g : Nat → O4} {j : Nat} (h : ∀ q, q < j → f q = g q) (hj : f j = g j) : ∀ q, q < j + 1 → f q = g q := by
  intro q hq
  by_cases e : q = j
  · rw [e]
    exact hj
  · exact h q (by omega)
theorem gl_ext {l m : List O4} (h : l.length = m.length) (hg : ∀ q, q < l.length → gl l q = gl m q) : l = m := by
  refine List.ext_getElem h (fun i h1 h2 => ?_)
  have := hg i h1
  rwa [gl_at h1, gl_at h2] at this
def SOut (w : World) (p : Bool) (e : Ending) (w' : World) : Prop := e = .returned (.bool p) ∧ Below w.heap.size w w'
theorem same_len (a b : Option Addr) (l m : List O4) (c d : Nat) (w : World) (h : l.length ≠ m.length) : Calls Tryd.prog 18 #[.slice a l.length c, .slice b m.length d] w (SOut w (sameB l m)) := by
  have HS : Hid (sameB l m = false) := Lib.hid (decide_eq_false (fun e => h (by rw [e])))
  have hb : ((l.length : Int) == (m.length : Int)) = false := by simp; omega
  generalize l.length = x at h hb ⊢
  generalize m.length = y at h hb ⊢
  clear h
  go_enter Tryd.func18, Tryd.ntmps18
  go_wp2
  go_ret
  exact ⟨by rw [HS.out]; rfl, Below.refl _ _⟩
set_option maxHeartbeats 1000000 in
theorem same_eq (a b : Option Addr) (l m : List O4) (c d : Nat) (w : World) (h : m.length = l.length) (hn : l.length ≤ maxLen) (hl : ORow w w.heap.size a l.length (gl l)) (hm : ORow w w.heap.size b m.length (gl m)) : Calls Tryd.prog 18 #[.slice a l.length c, .slice b m.length d] w (SOut w (sameB l m)) := by
  rw [h] at hm ⊢
  have HL := Lib.hid hl
  have HM := Lib.hid hm
  have HE := Lib.hid h
  obtain ⟨n, hnn⟩ : ∃ n, n = l.length := ⟨_, rfl⟩
  have HN := Lib.hid hnn
  rw [← hnn] at hn ⊢
  clear hl hm h hnn
  unfold maxLen at hn
  go_enter Tryd.func18, Tryd.ntmps18
  go_wp2
  go_loopw [5] (fun i wr => ∃ j : Nat, j ≤ n ∧ i = .int .i64 j ∧ Hid (Below w.heap.size w wr ∧ ∀ q, q < j → gl l q = gl m q)) (fun i _ => n - (intOf i).toNat)
  case atStart => exact ⟨0, Nat.zero_le _, rfl, Lib.hid ⟨Below.refl _ _, fun q hq => absurd hq (by omega)⟩⟩
  case round =>
    obtain ⟨j, hj, rfl, HI⟩ := hrel
    by_cases hlt : j < n
    · obtain ⟨b1, o1, rfl, h1, hc1⟩ := HL.out (by rw [← HN.out]; omega)
      obtain ⟨b2, o2, rfl, h2, hc2⟩ := HM.out (by rw [← HN.out]; omega)
      obtain ⟨p0, p1, p2, p3⟩ := hc1 j (by rw [← HN.out]; exact hlt)
      obtain ⟨q0, q1, q2, q3⟩ := hc2 j (by rw [← HN.out]; exact hlt)
      have c0 := (HI.out.1.cell (p := ⟨b1, o1 + j * 4, none⟩) h1).trans p0
      have c1 := (HI.out.1.cell (p := ⟨b1, o1 + j * 4 + 1, none⟩) h1).trans p1
      have c2 := (HI.out.1.cell (p := ⟨b1, o1 + j * 4 + 2, none⟩) h1).trans p2
      have c3 := (HI.out.1.cell (p := ⟨b1, o1 + j * 4 + 3, none⟩) h1).trans p3
      have d0 := (HI.out.1.cell (p := ⟨b2, o2 + j * 4, none⟩) h2).trans q0
      have d1 := (HI.out.1.cell (p := ⟨b2, o2 + j * 4 + 1, none⟩) h2).trans q1
      have d2 := (HI.out.1.cell (p := ⟨b2, o2 + j * 4 + 2, none⟩) h2).trans q2
      have d3 := (HI.out.1.cell (p := ⟨b2, o2 + j * 4 + 3, none⟩) h2).trans q3
      clear p0 p1 p2 p3 q0 q1 q2 q3 hc1 hc2
      by_cases he : gl l j = gl m j
      · have HQ := Lib.hid he
        rw [← he] at d0 d1 d2 d3
        clear he
        generalize gl l j = x at c0 c1 c2 c3 d0 d1 d2 d3
        have hop := fun w => op_same x.k x.a x.b x.c w
        go_wp2
        go_region
        go_wp2
        go_roundw
        case rel => exact ⟨j + 1, by omega, by rfl, Lib.hid ⟨HI.out.1.trans ⟨rfl, rfl, rfl, Nat.le_refl _, fun _ _ => rfl⟩, eq_step HI.out.2 HQ.out⟩⟩
        case measure => simp [intOf]; omega
      · have HNE : Hid (sameB l m = false) := Lib.hid (decide_eq_false (fun e => he (by rw [e])))
        have hne : ¬ ((gl l j).k = (gl m j).k ∧ (gl l j).a = (gl m j).a ∧ (gl l j).b = (gl m j).b ∧ (gl l j).c = (gl m j).c) := fun h => he (o4_iff.1 h)
        have hop := fun w => op_other _ _ _ _ _ _ _ _ hne w
        clear he hne
        generalize gl l j = x at c0 c1 c2 c3 hop
        generalize gl m j = y at d0 d1 d2 d3 hop
        go_wp2
        go_region
        go_wp2
        go_ret
        exact ⟨by rw [HNE.out]; rfl, HI.out.1.trans ⟨rfl, rfl, rfl, Nat.le_refl _, fun _ _ => rfl⟩⟩
    · obtain rfl : j = n := by omega
      have HS : Hid (sameB l m = true) := Lib.hid (decide_eq_true (gl_ext HE.out.symm (by rw [← HN.out]; exact HI.out.2)))
      go_wp2
      go_ret
      exact ⟨by rw [HS.out]; rfl, HI.out.1⟩
/-- Are two lists the same? -/
theorem rsame_any (a b : Option Addr) (l m : List O4) (c d : Nat) (w : World) (hn : l.length ≤ maxLen) (hl : ORow w w.heap.size a l.length (gl l)) (hm : ORow w w.heap.size b m.length (gl m)) : Calls Tryd.prog 18 #[.slice a l.length c, .slice b m.length d] w (SOut w (sameB l m)) := by
  by_cases h : l.length = m.length
  · exact same_eq a b l m c d w h.symm hn hl hm
  · exact same_len a b l m c d w h
end Go.Proofs.YtggjkagcnhhkjaaDoor.Cd
