/-
  Merged texts: LsInts, RtHolds.
-/
import Derived.Test.YtjppimabhefeeaaGreatDoorHpOF
import Derived.Deep.QuietTactic
import Derived.BigQuiet
import Derived.Test.YtjppimabhefeeaaGreatDoorHpOA
import Derived.Deep.Cut
import Derived.Deep.CutRange
import Derived.Deep.RegionHeld3
section
namespace Go.Proofs.YtjppimabhefeeaaGreatDoor.Ls
open Go.Proofs.YtjppimabhefeeaaGreatDoor
set_option maxRecDepth 100000
open Go.RowKit

theorem ints_other {xs ys : List Int} {k : Nat} (h : ¬ xs.getD k 0 = ys.getD k 0) : decide (xs = ys) = false := by
  simp only [decide_eq_false_iff_not]
  rintro rfl
  exact h rfl
theorem ints_all {xs ys : List Int} {n : Nat} (h1 : xs.length = n) (h2 : ys.length = n) (h : ∀ j, j < n → xs.getD j 0 = ys.getD j 0) : decide (xs = ys) = true := by
  simp only [decide_eq_true_eq]
  apply List.ext_getElem (by omega)
  intro i hi hj
  have := h i (by omega)
  simpa [List.getD, hi, hj] using this
theorem ints_any (B C : Nat) (A A' : Option Addr) (n m c c' : Nat) (xs ys : List Int) (w : World) (hn : n ≤ 4000000) (hm : m ≤ 4000000) (hr : Row w B A n xs) (hs : Row w C A' m ys) :
    Calls Tryz.prog 14 #[.slice A n c, .slice A' m c'] w fun e w' => e = .returned (.bool (decide (xs = ys))) ∧ ∃ d, w' = w.drewN d := by
  by_cases hnm : n = m
  · subst hnm
    have HR := Lib.hid hr
    have HS := Lib.hid hs
    clear hr hs
    go_enter Tryz.func14, Tryz.ntmps14
    go_wp2
    go_loopw [5] (fun i wr => ∃ k d : Nat, k ≤ n ∧ i = .int .i64 k ∧ wr = w.drewN d ∧ Hid (∀ j, j < k → xs.getD j 0 = ys.getD j 0)) (fun i _ => n - (intOf i).toNat)
    case atStart => exact ⟨0, 0, Nat.zero_le _, rfl, rfl, Lib.hid fun j h => absurd h (by omega)⟩
    case round =>
      obtain ⟨k, d, hk, rfl, rfl, HE⟩ := hrel
      by_cases hlt : k < n
      · obtain ⟨b, off, rfl, _, hc⟩ := HR.out.2 (by omega)
        obtain ⟨b', off', rfl, _, hc'⟩ := HS.out.2 (by omega)
        have h1 := hc k hlt
        have h2 := hc' k hlt
        clear hc hc'
        by_cases he : xs.getD k 0 = ys.getD k 0
        · have HE2 : Hid (∀ j, j < k + 1 → xs.getD j 0 = ys.getD j 0) := Lib.hid fun j hj => by
            by_cases e : j = k
            · rw [e]; exact he
            · exact HE.out j (by omega)
          rw [← he] at h2
          clear he HE
          go_wp2
          go_quiet (fail)
          go_wp2
          go_roundw
          case rel => exact ⟨k + 1, _, by omega, by go_num, rfl, HE2⟩
          case measure => simp [intOf]; omega
        · have HO := Lib.hid (ints_other he)
          obtain ⟨x, hx⟩ : ∃ x, x = xs.getD k 0 := ⟨_, rfl⟩
          obtain ⟨y, hy⟩ : ∃ y, y = ys.getD k 0 := ⟨_, rfl⟩
          rw [← hx, ← hy] at he
          rw [← hx] at h1
          rw [← hy] at h2
          have hd : (x != y) = true := by simpa using he
          clear he hx hy HE
          go_wp2
          go_quiet (fail)
          go_wp2
          go_ret
          exact ⟨rint HO.out.symm, _, World.drewN_drewN _ _ _⟩
      · obtain rfl : k = n := by omega
        have HO := Lib.hid (ints_all HR.out.1 HS.out.1 HE.out)
        clear HE
        go_wp2
        go_ret
        exact ⟨rint HO.out.symm, _, rfl⟩
  · have hd : ((n : Int) != m) = true := by simp; omega
    have HO : Hid (decide (xs = ys) = false) := Lib.hid (by
      simp only [decide_eq_false_iff_not]
      rintro rfl
      exact hnm (hr.1.symm.trans hs.1))
    clear hr hs hnm
    go_enter Tryz.func14, Tryz.ntmps14
    go_wp2
    go_ret
    exact ⟨rint HO.out.symm, 0, rfl⟩
theorem ints_tell (B C : Nat) (A A' : Option Addr) (n m c c' : Nat) (xs ys : List Int) (w : World) (hn : n ≤ 4000000) (hm : m ≤ 4000000) (hr : Row w B A n xs) (hs : Row w C A' m ys) :
    Calls Tryz.prog 14 #[.slice A n c, .slice A' m c'] w (Tells w (decide (xs = ys))) :=
  (ints_any B C A A' n m c c' xs ys w hn hm hr hs).mono fun _ _ ⟨he, d, hd⟩ => ⟨he, by rw [hd]; exact below_drewN (Below.refl _ _) _⟩

theorem below_row_drewN {w : World} {B n : Nat} {a : Option Addr} {xs : List Int} (h : Row w B a n xs) (d : Nat) : Row (w.drewN d) B a n xs := h
/-- Whether two are the same. -/
def sameUp (f g : Nat → List Int) (k : Nat) : Prop := ∀ j, j < k → f j = g j
theorem sameUp_next {f g : Nat → List Int} {k : Nat} (h : sameUp f g k) (hk : f k = g k) : sameUp f g (k + 1) := fun j hj => by
  by_cases e : j = k
  · rw [e]; exact hk
  · exact h j (by omega)
instance (f g : Nat → List Int) (k : Nat) : Decidable (sameUp f g k) := inferInstanceAs (Decidable (∀ j, j < k → f j = g j))

set_option maxHeartbeats 1000000 in
theorem same_any (B C : Nat) (u v : Nat → Sl) (f g : Nat → List Int) (w : World) (hu : L3 w B u f) (hB : B ≤ w.heap.size) (hv : L3 w C v g) (hC : C ≤ w.heap.size) (hn : ∀ j, j < 3 → (u j).n ≤ 4000000) (hm : ∀ j, j < 3 → (v j).n ≤ 4000000) :
    Calls Tryz.prog 27 #[(.agg #[.slice (u 0).a (u 0).n (u 0).c, .slice (u 1).a (u 1).n (u 1).c, .slice (u 2).a (u 2).n (u 2).c]), (.agg #[.slice (v 0).a (v 0).n (v 0).c, .slice (v 1).a (v 1).n (v 1).c, .slice (v 2).a (v 2).n (v 2).c])] w (Tells w (decide (sameUp f g 3))) := by
  have HU := Lib.hid hu
  have HV := Lib.hid hv
  have HN := Lib.hid hn
  have HM := Lib.hid hm
  clear hu hv hn hm
  go_enter Tryz.func27, Tryz.ntmps27
  go_wp2
  have bb := two_below w (.cells #[.slice (u 0).a (u 0).n (u 0).c, .slice (u 1).a (u 1).n (u 1).c, .slice (u 2).a (u 2).n (u 2).c] 25) (.cells #[.slice (v 0).a (v 0).n (v 0).c, .slice (v 1).a (v 1).n (v 1).c, .slice (v 2).a (v 2).n (v 2).c] 25)
  have X := Lib.hid ((Box3.new w u 25).alloc (.cells #[.slice (v 0).a (v 0).n (v 0).c, .slice (v 1).a (v 1).n (v 1).c, .slice (v 2).a (v 2).n (v 2).c] 25))
  have Y := Lib.hid (Box3.new (w.alloc (.cells #[.slice (u 0).a (u 0).n (u 0).c, .slice (u 1).a (u 1).n (u 1).c, .slice (u 2).a (u 2).n (u 2).c] 25)) v 25)
  have LU := Lib.hid (HU.out.over bb hB)
  have LV := Lib.hid (HV.out.over bb hC)
  rw [World.size_alloc] at Y
  obtain ⟨w1, hw1⟩ : ∃ w1, w1 = (w.alloc (.cells #[.slice (u 0).a (u 0).n (u 0).c, .slice (u 1).a (u 1).n (u 1).c, .slice (u 2).a (u 2).n (u 2).c] 25)).alloc (.cells #[.slice (v 0).a (v 0).n (v 0).c, .slice (v 1).a (v 1).n (v 1).c, .slice (v 2).a (v 2).n (v 2).c] 25) := ⟨_, rfl⟩
  rw [← hw1] at X Y LU LV bb ⊢
  have BB := Lib.hid bb
  have hx := X.out.lt
  have hy := Y.out.lt
  clear hw1 bb HU HV
  go_loopw [5] (fun i wr => ∃ k : Nat, k ≤ 3 ∧ i = .int .i64 k ∧ Hid ((∃ d, wr = w1.drewN d) ∧ sameUp f g k)) (fun i _ => 3 - (intOf i).toNat)
  case atStart => exact ⟨0, Nat.zero_le _, rfl, Lib.hid ⟨⟨0, rfl⟩, fun j h => absurd h (by omega)⟩⟩
  case round =>
    obtain ⟨k, hk, rfl, HE⟩ := hrel
    obtain ⟨d, hd⟩ := HE.out.1
    by_cases hlt : k < 3
    · have cx := (X.out.drewN d).cell k hlt
      have cy := (Y.out.drewN d).cell k hlt
      have LU2 := Lib.hid ((LU.out.drewN d) k hlt).1
      have LV2 := Lib.hid ((LV.out.drewN d) k hlt).1
      have hx2 := (X.out.drewN d).lt
      have hy2 := (Y.out.drewN d).lt
      rw [← hd] at cx cy LU2 LV2 hx2 hy2
      replace hd := Lib.hid hd
      by_cases he : f k = g k
      · have HS := Lib.hid (sameUp_next HE.out.2 he)
        have hdec : decide (f k = g k) = true := by simpa using he
        have HI := Lib.hid (fun n : Nat => by
          have := ints_any B C (u k).a (v k).a (u k).n (v k).n (u k).c (v k).c (f k) (g k) (wr.drewN n) (HN.out k hlt) (HM.out k hlt) (below_row_drewN LU2.out n) (below_row_drewN LV2.out n)
          rw [hdec] at this
          exact this)
        clear he hdec
        go_wp2
        go_quiet ((go_at_call 14; exact Calls.quiet_of (HI.out _)))
        go_wp2
        go_roundw
        case rel => exact ⟨k + 1, by omega, by go_num, Lib.hid ⟨⟨_, by rw [hd.out]; exact World.drewN_drewN _ _ _⟩, HS.out⟩⟩
        case measure => simp [intOf]; omega
      · have hdec : decide (f k = g k) = false := by simpa using he
        have HO : Hid (decide (sameUp f g 3) = false) := Lib.hid (by
          simp only [decide_eq_false_iff_not]
          intro h
          exact he (h k hlt))
        have HI := Lib.hid (fun n : Nat => by
          have := ints_any B C (u k).a (v k).a (u k).n (v k).n (u k).c (v k).c (f k) (g k) (wr.drewN n) (HN.out k hlt) (HM.out k hlt) (below_row_drewN LU2.out n) (below_row_drewN LV2.out n)
          rw [hdec] at this
          exact this)
        clear he hdec
        go_wp2
        go_quiet ((go_at_call 14; exact Calls.quiet_of (HI.out _)))
        go_wp2
        go_ret
        exact ⟨rint HO.out.symm, by rw [hd.out]; exact below_drewN (below_drewN BB.out _) _⟩
    · obtain rfl : k = 3 := by omega
      have HO : Hid (decide (sameUp f g 3) = true) := Lib.hid (by simpa using HE.out.2)
      replace hd := Lib.hid hd
      go_wp2
      go_ret
      exact ⟨rint HO.out.symm, by rw [hd.out]; exact below_drewN BB.out _⟩
end Go.Proofs.YtjppimabhefeeaaGreatDoor.Ls
end
section
namespace Go.Proofs.YtjppimabhefeeaaGreatDoor.Rt
open Go.Proofs.YtjppimabhefeeaaGreatDoor
open Go.RowKit
set_option maxRecDepth 100000

/-- Six numbers in a box. -/
def sixv (xs : List Int) : List Value := [.int .i64 (xs.getD 0 0), .int .i64 (xs.getD 1 0), .int .i64 (xs.getD 2 0), .int .i64 (xs.getD 3 0), .int .i64 (xs.getD 4 0), .int .i64 (xs.getD 5 0)]
/-- The registers gone through so far. -/
def regsTo (t : Ts) (k : Nat) : List Int := [if 0 < k then t.r 0 else 0, if 1 < k then t.r 1 else 0, if 2 < k then t.r 2 else 0, if 3 < k then t.r 3 else 0, 0, 0]
structure Pl (w W : World) (t : Ts) (xs : List Int) : Prop where
  bel : Below w.heap.size w W
  box : Box W w.heap.size (tv t)
  res : Box W (w.heap.size + 1) (sixv [])
  all : Box W (w.heap.size + 2) (sixv xs)
section
variable {w W W' : World} {t : Ts} {xs : List Int}
theorem Pl.next (h : Pl w W t xs) (hb : Below W.heap.size W W') : Pl w W' t xs := ⟨h.bel.trans (hb.mono h.bel.size), h.box.next hb, h.res.next hb, h.all.next hb⟩
theorem Pl.drew (h : Pl w W t xs) : Pl w W.drew t xs := h.next ⟨rfl, rfl, rfl, Nat.le_refl _, fun _ _ => rfl⟩
theorem pl_start {ty ty' ty2 : TypeId} (h : W = ((w.alloc (.cells #[.bool t.lv, .int .i64 (t.r 0), .int .i64 (t.r 1), .int .i64 (t.r 2), .int .i64 (t.r 3), .slice (t.u 0).a (t.u 0).n (t.u 0).c, .slice (t.u 1).a (t.u 1).n (t.u 1).c, .slice (t.u 2).a (t.u 2).n (t.u 2).c, .int .i64 t.ep, .int .i64 t.sg, .int .i64 t.rt, .slice t.o.a t.o.n t.o.c, .int .i64 t.pc, .int .i64 t.x, .int .i64 t.y] ty)).alloc (.cells (sixv []).toArray ty')).alloc (.cells (sixv []).toArray ty2)) : Pl w W t [] := by
  obtain ⟨W1, h1⟩ : ∃ W1, W1 = w.alloc (.cells #[.bool t.lv, .int .i64 (t.r 0), .int .i64 (t.r 1), .int .i64 (t.r 2), .int .i64 (t.r 3), .slice (t.u 0).a (t.u 0).n (t.u 0).c, .slice (t.u 1).a (t.u 1).n (t.u 1).c, .slice (t.u 2).a (t.u 2).n (t.u 2).c, .int .i64 t.ep, .int .i64 t.sg, .int .i64 t.rt, .slice t.o.a t.o.n t.o.c, .int .i64 t.pc, .int .i64 t.x, .int .i64 t.y] ty) := ⟨_, rfl⟩
  obtain ⟨W2, h2⟩ : ∃ W2, W2 = W1.alloc (.cells (sixv []).toArray ty') := ⟨_, rfl⟩
  rw [← h1, ← h2] at h
  have b1 : Below w.heap.size w W1 := by rw [h1]; exact (Below.refl _ _).alloc (Nat.le_refl _) _
  have b2 : Below W1.heap.size W1 W2 := by rw [h2]; exact (Below.refl _ _).alloc (Nat.le_refl _) _
  have b3 : Below W2.heap.size W2 W := by rw [h]; exact (Below.refl _ _).alloc (Nat.le_refl _) _
  have s1 : W1.heap.size = w.heap.size + 1 := by rw [h1]; simp
  have s2 : W2.heap.size = w.heap.size + 2 := by rw [h2]; simp [s1]
  have x1 : Box W1 w.heap.size (tv t) := by rw [h1]; exact Box.new w (tv t) ty
  have x2 : Box W2 (w.heap.size + 1) (sixv []) := by rw [h2, ← s1]; exact Box.new W1 (sixv []) ty'
  have x3 : Box W (w.heap.size + 2) (sixv []) := by rw [h, ← s2]; exact Box.new W2 (sixv []) ty2
  exact ⟨(b1.trans (b2.mono b1.size)).trans (b3.mono (Nat.le_trans b1.size b2.size)), (x1.next b2).next b3, x2.next b3, x3⟩
theorem Pl.set (h : Pl w W t xs) (k : Nat) (a : Int) (ys : List Int) (e : (sixv xs).set k (.int .i64 a) = sixv ys) : Pl w (W.setCell ⟨w.heap.size + 2, k, none⟩ (.int .i64 a)) t ys := by
  refine ⟨h.bel.setCell (p := ⟨w.heap.size + 2, k, none⟩) (by simp) _, h.box.other (by simp) _, h.res.other (by simp) _, ?_⟩
  rw [← e]
  exact h.all.set k _
theorem regs_set (t : Ts) (k : Nat) (hk : k < 4) : (sixv (regsTo t k)).set k (.int .i64 (t.r k)) = sixv (regsTo t (k + 1)) := by
  match k, hk with
  | 0, _ => rfl
  | 1, _ => rfl
  | 2, _ => rfl
  | 3, _ => rfl
theorem six_cell {b k : Nat} {xs : List Int} (h : Box W b (sixv xs)) (hk : k < 4) : ∃ v, W.cell? ⟨b, k, none⟩ = some v := by
  match k, hk with
  | 0, _ => exact ⟨_, h.cel 0 _ rfl⟩
  | 1, _ => exact ⟨_, h.cel 1 _ rfl⟩
  | 2, _ => exact ⟨_, h.cel 2 _ rfl⟩
  | 3, _ => exact ⟨_, h.cel 3 _ rfl⟩
theorem res_places {b : Nat} {tm : Array Value} {ys : List Int} (ht : tm[2]? = some (.pointer (some ⟨b, 0, none⟩))) (h : Box W b (sixv ys)) : (results Tryz.f30 tm).run Tryz.prog W = .ok (.agg (sixv ys).toArray) W := by
  have k0 := h.cel 0 _ rfl
  have k1 := h.cel 1 _ rfl
  have k2 := h.cel 2 _ rfl
  have k3 := h.cel 3 _ rfl
  have k4 := h.cel 4 _ rfl
  have k5 := h.cel 5 _ rfl
  simp [results, Tryz.results30, go_sem, ht, k0, k1, k2, k3, k4, k5, sixv]
end
set_option maxHeartbeats 4000000 in
theorem places_any (t : Ts) (w : World) : Calls Tryz.prog 30 #[(.agg #[.bool t.lv, .int .i64 (t.r 0), .int .i64 (t.r 1), .int .i64 (t.r 2), .int .i64 (t.r 3), .slice (t.u 0).a (t.u 0).n (t.u 0).c, .slice (t.u 1).a (t.u 1).n (t.u 1).c, .slice (t.u 2).a (t.u 2).n (t.u 2).c, .int .i64 t.ep, .int .i64 t.sg, .int .i64 t.rt, .slice t.o.a t.o.n t.o.c, .int .i64 t.pc, .int .i64 t.x, .int .i64 t.y])] w fun e w' => e = .returned (.agg #[.int .i64 (t.r 0), .int .i64 (t.r 1), .int .i64 (t.r 2), .int .i64 (t.r 3), .int .i64 t.x, .int .i64 t.y]) ∧ Below w.heap.size w w' := by
  go_enter Tryz.func30, Tryz.ntmps30
  go_wp2_with fail
  obtain ⟨W0, hW0⟩ : ∃ W0, W0 = ((w.alloc (.cells #[.bool t.lv, .int .i64 (t.r 0), .int .i64 (t.r 1), .int .i64 (t.r 2), .int .i64 (t.r 3), .slice (t.u 0).a (t.u 0).n (t.u 0).c, .slice (t.u 1).a (t.u 1).n (t.u 1).c, .slice (t.u 2).a (t.u 2).n (t.u 2).c, .int .i64 t.ep, .int .i64 t.sg, .int .i64 t.rt, .slice t.o.a t.o.n t.o.c, .int .i64 t.pc, .int .i64 t.x, .int .i64 t.y] 34)).alloc (.cells #[.int .i64 0, .int .i64 0, .int .i64 0, .int .i64 0, .int .i64 0, .int .i64 0] 60)).alloc (.cells #[.int .i64 0, .int .i64 0, .int .i64 0, .int .i64 0, .int .i64 0, .int .i64 0] 60) := ⟨_, rfl⟩
  have K0 := Lib.hid (pl_start hW0)
  rw [← hW0]
  clear hW0
  go_loopw [5, 4] (fun i _ wr => ∃ k : Nat, k ≤ 4 ∧ i = .int .i64 k ∧ Hid (Pl w wr t (regsTo t k))) (fun i _ _ => 4 - (intOf i).toNat)
  case atStart => exact ⟨0, by omega, rfl, Lib.hid ⟨K0.out.bel, K0.out.box, K0.out.res, K0.out.all⟩⟩
  case round =>
    obtain ⟨k, hk, rfl, HP⟩ := hrel
    by_cases hlt : k < 4
    · have q := tbox_reg HP.out.box hlt
      have hb := HP.out.box.lt
      obtain ⟨v0, hc⟩ := six_cell HP.out.all hlt
      have hf := HP.out.all.free k
      have hl := HP.out.all.lt
      have hlt' : (k : Int) < 4 := by omega
      have hlt6 : (k : Int) < 6 := by omega
      have P1 := Lib.hid (HP.out.set k (t.r k) _ (regs_set t k hlt))
      go_wp2
      go_roundw
      case rel => exact ⟨k + 1, by omega, by go_num, P1⟩
      case measure => simp [intOf]; omega
    · obtain rfl : k = 4 := by omega
      have q13 := HP.out.box.cel 13 (.int .i64 t.x) rfl
      have q14 := HP.out.box.cel 14 (.int .i64 t.y) rfl
      have ql := HP.out.box.lt
      have a4 := HP.out.all.cel 4 (.int .i64 0) rfl
      have a5 := HP.out.all.cel 5 (.int .i64 0) rfl
      have f4 := HP.out.all.free 4
      have f5 := HP.out.all.free 5
      have al := HP.out.all.lt
      go_upto_region 7 with fail
      go_region
      obtain ⟨W9, hW9⟩ : ∃ W9, W9 = ((wr.setCell ⟨w.heap.size + 1 + 1, 4, none⟩ (.int .i64 t.x)).setCell ⟨w.heap.size + 1 + 1, 5, none⟩ (.int .i64 t.y)).drew := ⟨_, rfl⟩
      have P9 : Hid (Pl w W9 t (six t)) := Lib.hid (by rw [hW9]; exact ((HP.out.set 4 t.x [t.r 0, t.r 1, t.r 2, t.r 3, t.x, 0] rfl).set 5 t.y (six t) rfl).drew)
      rw [← hW9]
      clear hW9 q13 q14 ql a4 a5 f4 f5 al
      have z0 := P9.out.all.cel 0 (.int .i64 (t.r 0)) rfl
      have z1 := P9.out.all.cel 1 (.int .i64 (t.r 1)) rfl
      have z2 := P9.out.all.cel 2 (.int .i64 (t.r 2)) rfl
      have z3 := P9.out.all.cel 3 (.int .i64 (t.r 3)) rfl
      have z4 := P9.out.all.cel 4 (.int .i64 t.x) rfl
      have z5 := P9.out.all.cel 5 (.int .i64 t.y) rfl
      have zl := P9.out.all.lt
      have y0 := P9.out.res.cel 0 (.int .i64 0) rfl
      have y1 := P9.out.res.cel 1 (.int .i64 0) rfl
      have y2 := P9.out.res.cel 2 (.int .i64 0) rfl
      have y3 := P9.out.res.cel 3 (.int .i64 0) rfl
      have y4 := P9.out.res.cel 4 (.int .i64 0) rfl
      have y5 := P9.out.res.cel 5 (.int .i64 0) rfl
      have yf := P9.out.res.free
      have yl := P9.out.res.lt
      go_wp2
      have BE := Box.puts (sixv (six t)) 0 P9.out.res
      exact bodyPost_ret (v := .agg (sixv (six t)).toArray) (res_places rfl BE) rfl ⟨rfl, below_puts _ (by omega) (sixv (six t)) 0 _ P9.out.bel⟩
/-- What is held in the first k places. -/
def heldTo (t : Ts) (k : Nat) : List Int := ((six t).take k).filter fun a => decide (¬ a = 0)
theorem held_next (t : Ts) {k : Nat} (hk : k < 6) : heldTo t (k + 1) = heldTo t k ++ (if (six t).getD k 0 = 0 then [] else [(six t).getD k 0]) := held_step (six t) k hk
theorem held_len (t : Ts) (k : Nat) : (heldTo t k).length ≤ 6 := Nat.le_trans (List.length_filter_le _ _) (by rw [List.length_take]; exact Nat.min_le_right _ _)
theorem six_index (t : Ts) (k : Nat) (hk : k < 6) (w : World) : (Instr.index 60 (.agg #[.int .i64 (t.r 0), .int .i64 (t.r 1), .int .i64 (t.r 2), .int .i64 (t.r 3), .int .i64 t.x, .int .i64 t.y]) (.int .i64 k)).run Tryz.prog w = .ok (.int .i64 ((six t).getD k 0)) w := by
  match k, hk with
  | 0, _ => rfl
  | 1, _ => rfl
  | 2, _ => rfl
  | 3, _ => rfl
  | 4, _ => rfl
  | 5, _ => rfl
theorem row1 (w : World) (a : Int) : Row (w.alloc (.cells #[.int .i64 a] 3)) (w.heap.size + 1) (some ⟨w.heap.size, 0, none⟩) 1 [a] := by
  refine ⟨rfl, fun _ => ⟨_, _, rfl, by omega, fun i hi => ?_⟩⟩
  match i, hi with
  | 0, _ => simp [go_sem]
theorem alling_start {w w1 : World} {o : Obj} (hb : Below (w.alloc o).heap.size (w.alloc o) w1) : Ls.Alling w w1 ⟨none, 0, 0⟩ [] :=
  ⟨World.ownsRow_nil _ _ _ _, ((Below.refl _ _).alloc (Nat.le_refl _) _).trans (hb.mono (by simp))⟩
set_option maxHeartbeats 4000000 in
theorem holds_any (t : Ts) (w : World) : Calls Tryz.prog 15 #[(.agg #[.bool t.lv, .int .i64 (t.r 0), .int .i64 (t.r 1), .int .i64 (t.r 2), .int .i64 (t.r 3), .slice (t.u 0).a (t.u 0).n (t.u 0).c, .slice (t.u 1).a (t.u 1).n (t.u 1).c, .slice (t.u 2).a (t.u 2).n (t.u 2).c, .int .i64 t.ep, .int .i64 t.sg, .int .i64 t.rt, .slice t.o.a t.o.n t.o.c, .int .i64 t.pc, .int .i64 t.x, .int .i64 t.y])] w (Ls.AllOut w (holdL t)) := by
  go_enter Tryz.func15, Tryz.ntmps15
  go_wp2_with fail
  refine (places_any t _).mono ?_
  rintro e w1 ⟨rfl, hb1⟩
  have A1 := Lib.hid (alling_start hb1)
  clear hb1
  go_wp2
  go_loopw [8, 3, 5] (fun i h _ wr => ∃ (k : Nat) (s : Ls.Sl), k ≤ 6 ∧ i = .int .i64 k ∧ h = .slice s.a s.n s.c ∧ Hid (Ls.Alling w wr s (heldTo t k))) (fun i _ _ _ => 6 - (intOf i).toNat)
  case atStart => exact ⟨0, ⟨none, 0, 0⟩, by omega, rfl, rfl, A1⟩
  case round =>
    obtain ⟨k, s, hk, rfl, rfl, HA⟩ := hrel
    by_cases hlt : k < 6
    · have hix := six_index t k hlt
      have hlt' : (k : Int) < 6 := by omega
      have hn := held_next t hlt
      have hsn : s.n ≤ 6 := by rw [HA.out.len]; exact held_len t k
      obtain ⟨a, ha⟩ : ∃ a, a = (six t).getD k 0 := ⟨_, rfl⟩
      rw [← ha] at hix hn
      clear ha
      by_cases h0 : a = 0
      · rw [if_pos h0, List.append_nil] at hn
        have A2 : Hid (Ls.Alling w wr s (heldTo t (k + 1))) := Lib.hid (by rw [hn]; exact HA.out)
        clear hn
        subst h0
        go_wp2
        go_roundw
        case rel => exact ⟨k + 1, s, by omega, by go_num, rfl, A2⟩
        case measure => simp [intOf]; omega
      · rw [if_neg h0] at hn
        have HN := Lib.hid hn
        have hd : (a != 0) = true := by simpa using h0
        clear hn h0
        have hbs := HA.out.bel.size
        go_wp2_with (at_builtin; refine Ls.list_cat rfl (.tmp 13) (.tmp 15) rfl rfl rfl (HA.out.own.alloc _) (row1 wr a) (by simp; omega) (by omega) ?_)
        intro p' cp' w2 hcat
        have A2 : Hid (Ls.Alling w w2 ⟨p', s.n + 1, cp'⟩ (heldTo t (k + 1))) := Lib.hid (by rw [HN.out]; exact (HA.out.alloc _).cat hcat)
        clear hcat
        go_wp2
        go_roundw
        case rel => exact ⟨k + 1, ⟨p', s.n + 1, cp'⟩, by omega, by go_num, rfl, A2⟩
        case measure => simp [intOf]; omega
    · obtain rfl : k = 6 := by omega
      go_wp2
      go_ret
      exact ⟨s, rfl, HA.out.own, HA.out.bel⟩
end Go.Proofs.YtjppimabhefeeaaGreatDoor.Rt
end
