/-
  Merged texts: PgSame, LsInts, HpSame.
-/
import Derived.Test.YtmalopciboikhaaDoorHpCB
import Derived.Test.YtmalopciboikhaaDoorHpCD
import Derived.Deep.QuietTactic
import Derived.BigQuiet
import Derived.Test.YtmalopciboikhaaDoorHpCC
section
namespace Go.Proofs.YtmalopciboikhaaDoor.Cl
open Go.Proofs.YtmalopciboikhaaDoor
set_option maxRecDepth 100000
open Go.RowKit

set_option maxHeartbeats 1000000 in
theorem same_yes (B B' : Nat) (A A' : Option Addr) (n c c' : Nat) (f g : Nat → Int × Int) (w : World) (hn : n ≤ 1000) (he : ∀ i, i < n → g i = f i) (hr : PRow w B A n f) (hr' : PRow w B' A' n g) (hB : B ≤ w.heap.size) (hB' : B' ≤ w.heap.size) :
    Calls Tryd.prog 38 #[.slice A n c, .slice A' n c'] w fun e w' => e = .returned (.bool true) ∧ Below w.heap.size w w' := by
  have HR := Lib.hid hr
  have HR' := Lib.hid (hr'.congr (fun i hi => (he i hi).symm))
  clear hr hr' he
  go_enter Tryd.func38, Tryd.ntmps38
  go_wp2
  go_loopw [5] (fun i wr => ∃ k : Nat, k ≤ n ∧ i = .int .i64 k ∧ Below w.heap.size w wr) (fun i _ => n - (intOf i).toNat)
  case atStart => exact ⟨0, Nat.zero_le _, rfl, Below.refl _ _⟩
  case round =>
    obtain ⟨k, hk, rfl, hb⟩ := hrel
    by_cases hlt : k < n
    · obtain ⟨b, off, rfl, hbB, hc⟩ := (HR.out.over hb hB) (by omega)
      obtain ⟨p0, p1⟩ := hc k hlt
      obtain ⟨b', off', rfl, hbB', hc'⟩ := (HR'.out.over hb hB') (by omega)
      obtain ⟨q0, q1⟩ := hc' k hlt
      have HB := Lib.hid hb
      have hz := hb.size
      have HQ := pneq_no (a := (f k).1) (b := (f k).2) ⟨rfl, rfl⟩
      clear hb hc hc'
      go_wp2
      go_quiet (fail)
      go_wp2
      go_roundw
      case rel => exact ⟨k + 1, by omega, by go_num, below_drewN HB.out _⟩
      case measure => simp [intOf]; omega
    · go_wp2
      go_ret
      exact ⟨rfl, hb⟩
end Go.Proofs.YtmalopciboikhaaDoor.Cl
end
section
namespace Go.Proofs.YtmalopciboikhaaDoor.Ls
open Go.Proofs.YtmalopciboikhaaDoor
set_option maxRecDepth 100000
open Go.RowKit

theorem ints_other {xs ys : List Int} {k : Nat} (h : ¬ xs.getD k 0 = ys.getD k 0) : decide (xs = ys) = false := by
  simp only [decide_eq_false_iff_not]
  rintro rfl
  exact h rfl
theorem ints_all {xs ys : List Int} {n : Nat} (h1 : xs.length = n) (h2 : ys.length = n) (h : ∀ j, j < n → xs.getD j 0 = ys.getD j 0) : decide (xs = ys) = true := by
  simp only [decide_eq_true_eq]
  apply List.ext_getElem (by omega)
  intro i hi hj
  have := h i (by omega)
  simpa [List.getD, hi, hj] using this
theorem ints_any (B C : Nat) (A A' : Option Addr) (n m c c' : Nat) (xs ys : List Int) (w : World) (hn : n ≤ 4000000) (hm : m ≤ 4000000) (hr : Row w B A n xs) (hs : Row w C A' m ys) :
    Calls Tryd.prog 14 #[.slice A n c, .slice A' m c'] w fun e w' => e = .returned (.bool (decide (xs = ys))) ∧ ∃ d, w' = w.drewN d := by
  by_cases hnm : n = m
  · subst hnm
    have HR := Lib.hid hr
    have HS := Lib.hid hs
    clear hr hs
    go_enter Tryd.func14, Tryd.ntmps14
    go_wp2
    go_loopw [5] (fun i wr => ∃ k d : Nat, k ≤ n ∧ i = .int .i64 k ∧ wr = w.drewN d ∧ Hid (∀ j, j < k → xs.getD j 0 = ys.getD j 0)) (fun i _ => n - (intOf i).toNat)
    case atStart => exact ⟨0, 0, Nat.zero_le _, rfl, rfl, Lib.hid fun j h => absurd h (by omega)⟩
    case round =>
      obtain ⟨k, d, hk, rfl, rfl, HE⟩ := hrel
      by_cases hlt : k < n
      · obtain ⟨b, off, rfl, _, hc⟩ := HR.out.2 (by omega)
        obtain ⟨b', off', rfl, _, hc'⟩ := HS.out.2 (by omega)
        have h1 := hc k hlt
        have h2 := hc' k hlt
        clear hc hc'
        by_cases he : xs.getD k 0 = ys.getD k 0
        · have HE2 : Hid (∀ j, j < k + 1 → xs.getD j 0 = ys.getD j 0) := Lib.hid fun j hj => by
            by_cases e : j = k
            · rw [e]; exact he
            · exact HE.out j (by omega)
          rw [← he] at h2
          clear he HE
          go_wp2
          go_quiet (fail)
          go_wp2
          go_roundw
          case rel => exact ⟨k + 1, _, by omega, by go_num, rfl, HE2⟩
          case measure => simp [intOf]; omega
        · have HO := Lib.hid (ints_other he)
          obtain ⟨x, hx⟩ : ∃ x, x = xs.getD k 0 := ⟨_, rfl⟩
          obtain ⟨y, hy⟩ : ∃ y, y = ys.getD k 0 := ⟨_, rfl⟩
          rw [← hx, ← hy] at he
          rw [← hx] at h1
          rw [← hy] at h2
          have hd : (x != y) = true := by simpa using he
          clear he hx hy HE
          go_wp2
          go_quiet (fail)
          go_wp2
          go_ret
          exact ⟨rint HO.out.symm, _, World.drewN_drewN _ _ _⟩
      · obtain rfl : k = n := by omega
        have HO := Lib.hid (ints_all HR.out.1 HS.out.1 HE.out)
        clear HE
        go_wp2
        go_ret
        exact ⟨rint HO.out.symm, _, rfl⟩
  · have hd : ((n : Int) != m) = true := by simp; omega
    have HO : Hid (decide (xs = ys) = false) := Lib.hid (by
      simp only [decide_eq_false_iff_not]
      rintro rfl
      exact hnm (hr.1.symm.trans hs.1))
    clear hr hs hnm
    go_enter Tryd.func14, Tryd.ntmps14
    go_wp2
    go_ret
    exact ⟨rint HO.out.symm, 0, rfl⟩
theorem ints_tell (B C : Nat) (A A' : Option Addr) (n m c c' : Nat) (xs ys : List Int) (w : World) (hn : n ≤ 4000000) (hm : m ≤ 4000000) (hr : Row w B A n xs) (hs : Row w C A' m ys) :
    Calls Tryd.prog 14 #[.slice A n c, .slice A' m c'] w (Tells w (decide (xs = ys))) :=
  (ints_any B C A A' n m c c' xs ys w hn hm hr hs).mono fun _ _ ⟨he, d, hd⟩ => ⟨he, by rw [hd]; exact below_drewN (Below.refl _ _) _⟩

theorem below_row_drewN {w : World} {B n : Nat} {a : Option Addr} {xs : List Int} (h : Row w B a n xs) (d : Nat) : Row (w.drewN d) B a n xs := h
/-- Whether two are the same. -/
def sameUp (f g : Nat → List Int) (k : Nat) : Prop := ∀ j, j < k → f j = g j
theorem sameUp_next {f g : Nat → List Int} {k : Nat} (h : sameUp f g k) (hk : f k = g k) : sameUp f g (k + 1) := fun j hj => by
  by_cases e : j = k
  · rw [e]; exact hk
  · exact h j (by omega)
instance (f g : Nat → List Int) (k : Nat) : Decidable (sameUp f g k) := inferInstanceAs (Decidable (∀ j, j < k → f j = g j))

set_option maxHeartbeats 1000000 in
theorem same_any (B C : Nat) (u v : Nat → Sl) (f g : Nat → List Int) (w : World) (hu : L3 w B u f) (hB : B ≤ w.heap.size) (hv : L3 w C v g) (hC : C ≤ w.heap.size) (hn : ∀ j, j < 3 → (u j).n ≤ 4000000) (hm : ∀ j, j < 3 → (v j).n ≤ 4000000) :
    Calls Tryd.prog 39 #[(.agg #[.slice (u 0).a (u 0).n (u 0).c, .slice (u 1).a (u 1).n (u 1).c, .slice (u 2).a (u 2).n (u 2).c]), (.agg #[.slice (v 0).a (v 0).n (v 0).c, .slice (v 1).a (v 1).n (v 1).c, .slice (v 2).a (v 2).n (v 2).c])] w (Tells w (decide (sameUp f g 3))) := by
  have HU := Lib.hid hu
  have HV := Lib.hid hv
  have HN := Lib.hid hn
  have HM := Lib.hid hm
  clear hu hv hn hm
  go_enter Tryd.func39, Tryd.ntmps39
  go_wp2
  have bb := two_below w (.cells #[.slice (u 0).a (u 0).n (u 0).c, .slice (u 1).a (u 1).n (u 1).c, .slice (u 2).a (u 2).n (u 2).c] 25) (.cells #[.slice (v 0).a (v 0).n (v 0).c, .slice (v 1).a (v 1).n (v 1).c, .slice (v 2).a (v 2).n (v 2).c] 25)
  have X := Lib.hid ((Box3.new w u 25).alloc (.cells #[.slice (v 0).a (v 0).n (v 0).c, .slice (v 1).a (v 1).n (v 1).c, .slice (v 2).a (v 2).n (v 2).c] 25))
  have Y := Lib.hid (Box3.new (w.alloc (.cells #[.slice (u 0).a (u 0).n (u 0).c, .slice (u 1).a (u 1).n (u 1).c, .slice (u 2).a (u 2).n (u 2).c] 25)) v 25)
  have LU := Lib.hid (HU.out.over bb hB)
  have LV := Lib.hid (HV.out.over bb hC)
  rw [World.size_alloc] at Y
  obtain ⟨w1, hw1⟩ : ∃ w1, w1 = (w.alloc (.cells #[.slice (u 0).a (u 0).n (u 0).c, .slice (u 1).a (u 1).n (u 1).c, .slice (u 2).a (u 2).n (u 2).c] 25)).alloc (.cells #[.slice (v 0).a (v 0).n (v 0).c, .slice (v 1).a (v 1).n (v 1).c, .slice (v 2).a (v 2).n (v 2).c] 25) := ⟨_, rfl⟩
  rw [← hw1] at X Y LU LV bb ⊢
  have BB := Lib.hid bb
  have hx := X.out.lt
  have hy := Y.out.lt
  clear hw1 bb HU HV
  go_loopw [5] (fun i wr => ∃ k : Nat, k ≤ 3 ∧ i = .int .i64 k ∧ Hid ((∃ d, wr = w1.drewN d) ∧ sameUp f g k)) (fun i _ => 3 - (intOf i).toNat)
  case atStart => exact ⟨0, Nat.zero_le _, rfl, Lib.hid ⟨⟨0, rfl⟩, fun j h => absurd h (by omega)⟩⟩
  case round =>
    obtain ⟨k, hk, rfl, HE⟩ := hrel
    obtain ⟨d, hd⟩ := HE.out.1
    by_cases hlt : k < 3
    · have cx := (X.out.drewN d).cell k hlt
      have cy := (Y.out.drewN d).cell k hlt
      have LU2 := Lib.hid ((LU.out.drewN d) k hlt).1
      have LV2 := Lib.hid ((LV.out.drewN d) k hlt).1
      have hx2 := (X.out.drewN d).lt
      have hy2 := (Y.out.drewN d).lt
      rw [← hd] at cx cy LU2 LV2 hx2 hy2
      replace hd := Lib.hid hd
      by_cases he : f k = g k
      · have HS := Lib.hid (sameUp_next HE.out.2 he)
        have hdec : decide (f k = g k) = true := by simpa using he
        have HI := Lib.hid (fun n : Nat => by
          have := ints_any B C (u k).a (v k).a (u k).n (v k).n (u k).c (v k).c (f k) (g k) (wr.drewN n) (HN.out k hlt) (HM.out k hlt) (below_row_drewN LU2.out n) (below_row_drewN LV2.out n)
          rw [hdec] at this
          exact this)
        clear he hdec
        go_wp2
        go_quiet ((go_at_call 14; exact Calls.quiet_of (HI.out _)))
        go_wp2
        go_roundw
        case rel => exact ⟨k + 1, by omega, by go_num, Lib.hid ⟨⟨_, by rw [hd.out]; exact World.drewN_drewN _ _ _⟩, HS.out⟩⟩
        case measure => simp [intOf]; omega
      · have hdec : decide (f k = g k) = false := by simpa using he
        have HO : Hid (decide (sameUp f g 3) = false) := Lib.hid (by
          simp only [decide_eq_false_iff_not]
          intro h
          exact he (h k hlt))
        have HI := Lib.hid (fun n : Nat => by
          have := ints_any B C (u k).a (v k).a (u k).n (v k).n (u k).c (v k).c (f k) (g k) (wr.drewN n) (HN.out k hlt) (HM.out k hlt) (below_row_drewN LU2.out n) (below_row_drewN LV2.out n)
          rw [hdec] at this
          exact this)
        clear he hdec
        go_wp2
        go_quiet ((go_at_call 14; exact Calls.quiet_of (HI.out _)))
        go_wp2
        go_ret
        exact ⟨rint HO.out.symm, by rw [hd.out]; exact below_drewN (below_drewN BB.out _) _⟩
    · obtain rfl : k = 3 := by omega
      have HO : Hid (decide (sameUp f g 3) = true) := Lib.hid (by simpa using HE.out.2)
      replace hd := Lib.hid hd
      go_wp2
      go_ret
      exact ⟨rint HO.out.symm, by rw [hd.out]; exact below_drewN BB.out _⟩
end Go.Proofs.YtmalopciboikhaaDoor.Ls
end
section
namespace Go.Proofs.YtmalopciboikhaaDoor
open Go.RowKit
set_option maxRecDepth 100000

/-- Two heaps' boxes. -/
structure Two (w W : World) (s t : Hs) (d d2 : Hd_) : Prop where
  bel : Below w.heap.size w W
  b1 : HBox W w.heap.size s
  b2 : HBox W (w.heap.size + 1) t
  h1 : Hp W W.heap.size s d
  h2 : Hp W W.heap.size t d2
theorem Two.next {w W W' : World} {s t : Hs} {d d2 : Hd_} (h : Two w W s t d d2) (hb : Below W.heap.size W W') : Two w W' s t d d2 := ⟨h.bel.trans (hb.mono h.bel.size), h.b1.next hb, h.b2.next hb, h.h1.next hb, h.h2.next hb⟩
theorem two_start {w W : World} {s t : Hs} {d d2 : Hd_} (hp : Hp w w.heap.size s d) (ht : Hp w w.heap.size t d2) (h : W = (w.alloc (.cells #[.slice s.w.a s.w.n s.w.c, .slice s.p.a s.p.n s.p.c, .slice (s.u 0).a (s.u 0).n (s.u 0).c, .slice (s.u 1).a (s.u 1).n (s.u 1).c, .slice (s.u 2).a (s.u 2).n (s.u 2).c, .slice s.c.a s.c.n s.c.c] 28)).alloc (.cells #[.slice t.w.a t.w.n t.w.c, .slice t.p.a t.p.n t.p.c, .slice (t.u 0).a (t.u 0).n (t.u 0).c, .slice (t.u 1).a (t.u 1).n (t.u 1).c, .slice (t.u 2).a (t.u 2).n (t.u 2).c, .slice t.c.a t.c.n t.c.c] 28)) : Two w W s t d d2 := by
  have hb : Below w.heap.size w W := by rw [h]; exact ((Below.refl _ _).alloc (Nat.le_refl _) _).alloc (by simp) _
  have bx : Below (w.alloc (.cells #[.slice s.w.a s.w.n s.w.c, .slice s.p.a s.p.n s.p.c, .slice (s.u 0).a (s.u 0).n (s.u 0).c, .slice (s.u 1).a (s.u 1).n (s.u 1).c, .slice (s.u 2).a (s.u 2).n (s.u 2).c, .slice s.c.a s.c.n s.c.c] 28)).heap.size (w.alloc (.cells #[.slice s.w.a s.w.n s.w.c, .slice s.p.a s.p.n s.p.c, .slice (s.u 0).a (s.u 0).n (s.u 0).c, .slice (s.u 1).a (s.u 1).n (s.u 1).c, .slice (s.u 2).a (s.u 2).n (s.u 2).c, .slice s.c.a s.c.n s.c.c] 28)) W := by rw [h]; exact (Below.refl _ _).alloc (Nat.le_refl _) _
  have z := HBox.new (w.alloc (.cells #[.slice s.w.a s.w.n s.w.c, .slice s.p.a s.p.n s.p.c, .slice (s.u 0).a (s.u 0).n (s.u 0).c, .slice (s.u 1).a (s.u 1).n (s.u 1).c, .slice (s.u 2).a (s.u 2).n (s.u 2).c, .slice s.c.a s.c.n s.c.c] 28)) t 28
  rw [World.size_alloc] at z
  exact ⟨hb, (HBox.new w s 28).next bx, by rw [h]; exact z, hp.next hb, ht.next hb⟩
set_option maxHeartbeats 1000000 in
theorem rsame_yes (s : Hs) (d d2 : Hd_) (A1 A2 A3 : Option Addr) (C1 C2 C3 : Nat) (v : Nat → Ls.Sl) (w : World) (hp : Hp w w.heap.size s d) (ht : Hp w w.heap.size ⟨⟨A1, s.w.n, C1⟩, ⟨A2, s.p.n, C2⟩, v, ⟨A3, s.c.n, C3⟩⟩ d2) (e1 : d2.ws = d.ws) (e2 : ∀ i, i < s.p.n → d2.f i = d.f i) (e3 : ∀ j, j < 3 → d.F j = d2.F j) (e4 : ∀ i, i < s.c.n → d2.cs i = d.cs i)
    (hwn : s.w.n ≤ 4000) (hpn : s.p.n ≤ 1000) (hcn : s.c.n ≤ 100000) (hun : ∀ j, j < 3 → (s.u j).n ≤ 4000000) (hvn : ∀ j, j < 3 → (v j).n ≤ 4000000) :
    Calls Tryd.prog 20 #[(.agg #[.slice s.w.a s.w.n s.w.c, .slice s.p.a s.p.n s.p.c, .slice (s.u 0).a (s.u 0).n (s.u 0).c, .slice (s.u 1).a (s.u 1).n (s.u 1).c, .slice (s.u 2).a (s.u 2).n (s.u 2).c, .slice s.c.a s.c.n s.c.c]), (.agg #[.slice A1 s.w.n C1, .slice A2 s.p.n C2, .slice (v 0).a (v 0).n (v 0).c, .slice (v 1).a (v 1).n (v 1).c, .slice (v 2).a (v 2).n (v 2).c, .slice A3 s.c.n C3])] w fun e w' => e = .returned (.bool true) ∧ Below w.heap.size w w' := by
  have HP := Lib.hid hp
  have HT := Lib.hid ht
  have E1 := Lib.hid e1
  have E2 := Lib.hid e2
  have E3 := Lib.hid e3
  have E4 := Lib.hid e4
  have HUN := Lib.hid hun
  have HVN := Lib.hid hvn
  clear hp ht e1 e2 e3 e4 hun hvn
  go_enter Tryd.func20, Tryd.ntmps20
  go_wp2_with fail
  obtain ⟨W1, hW1⟩ : ∃ W1, W1 = (w.alloc (.cells #[.slice s.w.a s.w.n s.w.c, .slice s.p.a s.p.n s.p.c, .slice (s.u 0).a (s.u 0).n (s.u 0).c, .slice (s.u 1).a (s.u 1).n (s.u 1).c, .slice (s.u 2).a (s.u 2).n (s.u 2).c, .slice s.c.a s.c.n s.c.c] 28)).alloc (.cells #[.slice A1 s.w.n C1, .slice A2 s.p.n C2, .slice (v 0).a (v 0).n (v 0).c, .slice (v 1).a (v 1).n (v 1).c, .slice (v 2).a (v 2).n (v 2).c, .slice A3 s.c.n C3] 28) := ⟨_, rfl⟩
  have S1 := Lib.hid (two_start HP.out HT.out hW1)
  rw [← hW1]
  clear hW1
  refine (Ls.ints_tell W1.heap.size W1.heap.size s.w.a A1 s.w.n s.w.n s.w.c C1 d.ws d2.ws W1 (by omega) (by omega) S1.out.h1.words S1.out.h2.words).mono ?_
  rw [decide_eq_true E1.out.symm]
  rintro e9 w2 ⟨rfl, hb2⟩
  have S2 := Lib.hid (S1.out.next hb2)
  clear hb2 S1
  have q1 := S2.out.b1.c1
  have ql := S2.out.b1.lt
  have r1 := S2.out.b2.c1
  have rl := S2.out.b2.lt
  go_wp2_with fail
  refine (Cl.same_yes w2.heap.size w2.heap.size s.p.a A2 s.p.n s.p.c C2 d.f d2.f w2 hpn E2.out S2.out.h1.pages S2.out.h2.pages (Nat.le_refl _) (Nat.le_refl _)).mono ?_
  rintro e9 w3 ⟨rfl, hb3⟩
  have S3 := Lib.hid (S2.out.next hb3)
  clear hb3 S2 q1 ql r1 rl
  have q2 := S3.out.b1.c2
  have q3 := S3.out.b1.c3
  have q4 := S3.out.b1.c4
  have ql := S3.out.b1.lt
  have r2 := S3.out.b2.c2
  have r3 := S3.out.b2.c3
  have r4 := S3.out.b2.c4
  have rl := S3.out.b2.lt
  go_wp2_with fail
  refine (Ls.same_any w3.heap.size w3.heap.size s.u v d.F d2.F w3 S3.out.h1.free (Nat.le_refl _) S3.out.h2.free (Nat.le_refl _) HUN.out HVN.out).mono ?_
  rw [decide_eq_true (show Ls.sameUp d.F d2.F 3 from E3.out)]
  rintro e9 w4 ⟨rfl, hb4⟩
  have S4 := Lib.hid (S3.out.next hb4)
  clear hb4 S3 q2 q3 q4 ql r2 r3 r4 rl
  have q5 := S4.out.b1.c5
  have ql := S4.out.b1.lt
  have r5 := S4.out.b2.c5
  have rl := S4.out.b2.lt
  have dn : ((s.c.n : Int) != s.c.n) = false := by simp
  go_wp2
  go_loopw [8] (fun i wr => ∃ k : Nat, k ≤ s.c.n ∧ i = .int .i64 k ∧ Hid (Two w wr s ⟨⟨A1, s.w.n, C1⟩, ⟨A2, s.p.n, C2⟩, v, ⟨A3, s.c.n, C3⟩⟩ d d2)) (fun i _ => s.c.n - (intOf i).toNat)
  case atStart => exact ⟨0, Nat.zero_le _, rfl, S4⟩
  case round =>
    obtain ⟨k, hk, rfl, HR⟩ := hrel
    clear S4 q5 ql r5 rl
    have q5 := HR.out.b1.c5
    have ql := HR.out.b1.lt
    have r5 := HR.out.b2.c5
    have rl := HR.out.b2.lt
    by_cases hlt : k < s.c.n
    · have dq : decide ((k : Int) < s.c.n) = true := by simp; omega
      have ik0 : (0 : Int) ≤ k := by omega
      have ik1 : (k : Int) < s.c.n := by omega
      obtain ⟨b, off, ea, hbl, hc⟩ := HR.out.h1.cards (by omega)
      obtain ⟨b', off', ea', hbl', hc'⟩ := HR.out.h2.cards (show 0 < s.c.n by omega)
      have c1 := hc k hlt
      have c2 := hc' k hlt
      dsimp only at c2 ea' r5
      rw [E4.out k hlt] at c2
      rw [ea] at q5
      rw [ea'] at r5
      generalize d.cs k = x at c1 c2
      have dx : (x != x) = false := by simp
      clear hc hc' ea ea'
      go_wp2
      go_quiet (fail)
      have HR2 : Hid (Two w (wr.drewN nq) s ⟨⟨A1, s.w.n, C1⟩, ⟨A2, s.p.n, C2⟩, v, ⟨A3, s.c.n, C3⟩⟩ d d2) := Lib.hid (HR.out.next (below_drawn' (Below.refl _ _) nq))
      go_wp2
      go_roundw
      case rel => exact ⟨k + 1, by omega, by go_num, HR2⟩
      case measure => simp [intOf]; omega
    · have dq : decide ((k : Int) < s.c.n) = false := by simp; omega
      go_wp2
      go_ret
      exact ⟨rfl, HR.out.bel⟩
end Go.Proofs.YtmalopciboikhaaDoor
end
