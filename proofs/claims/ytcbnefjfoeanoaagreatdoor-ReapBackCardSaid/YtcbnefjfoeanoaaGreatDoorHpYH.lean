/-
  Merged texts: RpFew, RpKept, RpLaw, RpLawC, RpLawD, RpBk.
-/
import Derived.Test.YtcbnefjfoeanoaaGreatDoorHpZK
import Derived.Test.YtcbnefjfoeanoaaGreatDoorYRpCopied
import Derived.Deep.RegionHeld3
import Derived.BigQuiet
import Derived.Test.YtcbnefjfoeanoaaGreatDoorYRpAwake
import Derived.Test.YtcbnefjfoeanoaaGreatDoorHpZJ
import Derived.Test.YtcbnefjfoeanoaaGreatDoorHpZG
import Derived.Test.YtcbnefjfoeanoaaGreatDoorYAlKp
section
namespace Go.Proofs.YtcbnefjfoeanoaaGreatDoor.Rp
open Go.Proofs.YtcbnefjfoeanoaaGreatDoor
open Go.RowKit
set_option maxRecDepth 100000

/-- All caches are light. -/
def lights (U : Nat → Nat → Ls.Sl) (m : Nat) : Bool := (List.range m).all fun i => lightB (U i)
def fewL (s : Hs) (U : Nat → Nat → Ls.Sl) (m : Nat) : Bool := (fewH s && lights U m) && decide (m ≤ 4)
theorem lights_succ (U : Nat → Nat → Ls.Sl) (m : Nat) : lights U (m + 1) = (lights U m && lightB (U m)) := by simp [lights, List.range_succ]
theorem few9_any (s : Hs) (A : Option Addr) (n c : Nat) (U : Nat → Nat → Ls.Sl) (F : Nat → Nat → List Int) (w : World) (hn : n ≤ 9223372036854775807) (hl : Ls.LRow w w.heap.size A n U F) :
    Calls Tryz.prog 21 #[(.agg #[.slice s.w.a s.w.n s.w.c, .slice s.p.a s.p.n s.p.c, .slice (s.u 0).a (s.u 0).n (s.u 0).c, .slice (s.u 1).a (s.u 1).n (s.u 1).c, .slice (s.u 2).a (s.u 2).n (s.u 2).c, .slice s.c.a s.c.n s.c.c]), .slice A n c] w fun e w' => e = .returned (.bool (fewL s U n)) ∧ Below w.heap.size w w' := by
  have HL := Lib.hid hl
  clear hl
  go_enter Tryz.func21, Tryz.ntmps21
  go_wp2_with fail
  have b0 := (Below.refl w.heap.size w).alloc (Nat.le_refl _) (.cells #[.slice s.w.a s.w.n s.w.c, .slice s.p.a s.p.n s.p.c, .slice (s.u 0).a (s.u 0).n (s.u 0).c, .slice (s.u 1).a (s.u 1).n (s.u 1).c, .slice (s.u 2).a (s.u 2).n (s.u 2).c, .slice s.c.a s.c.n s.c.c] 28)
  refine (rfew_any s _).mono ?_
  rintro e w1 ⟨rfl, hb1⟩
  have B1 := Lib.hid (b0.trans (hb1.mono b0.size))
  clear b0 hb1
  go_wp2
  go_loopw [5, 6] (fun q i wr => ∃ k : Nat, k ≤ n ∧ q = .bool (fewH s && lights U k) ∧ i = .int .i64 k ∧ Hid (Below w.heap.size w wr)) (fun _ i _ => n - (intOf i).toNat)
  case atStart => exact ⟨0, Nat.zero_le _, by simp [lights], rfl, B1⟩
  case round =>
    obtain ⟨k, hk, rfl, rfl, HB⟩ := hrel
    clear B1
    by_cases hlt : k < n
    · have dq : decide ((k : Int) < n) = true := by simp; omega
      have ik0 : (0 : Int) ≤ k := by omega
      have ik1 : (k : Int) < n := by omega
      have hnx : (fewH s && lights U (k + 1)) = ((fewH s && lights U k) && lightB (U k)) := by rw [lights_succ, Bool.and_assoc]
      have HNX := Lib.hid hnx
      obtain ⟨q, hq⟩ : ∃ q, q = (fewH s && lights U k) := ⟨_, rfl⟩
      rw [← hq] at HNX ⊢
      clear hnx hq
      cases q
      · go_wp2
        go_roundw
        case rel => exact ⟨k + 1, by omega, by rw [HNX.out]; rfl, by go_num, HB⟩
        case measure => simp [intOf]; omega
      · obtain ⟨b, off, rfl, hbl, hc⟩ := HL.out (by omega)
        have h0 := (hc k hlt).1 0 (by decide)
        have h1 := (hc k hlt).1 1 (by decide)
        have h2 := (hc k hlt).1 2 (by decide)
        have c0 := (HB.out.cell (p := ⟨b, off + k * 3 + 0, none⟩) hbl).trans h0
        have c1 := (HB.out.cell (p := ⟨b, off + k * 3 + 1, none⟩) hbl).trans h1
        have c2 := (HB.out.cell (p := ⟨b, off + k * 3 + 2, none⟩) hbl).trans h2
        have cl : b < wr.heap.size := by have := HB.out.size; omega
        rw [Nat.add_zero] at c0
        clear h0 h1 h2 hc
        go_wp2_with fail
        refine (rlight_any (U k) wr).mono ?_
        rintro e9 w5 ⟨rfl, hb5⟩
        have B5 := Lib.hid (HB.out.trans (hb5.mono HB.out.size))
        clear hb5 c0 c1 c2 cl
        go_wp2
        go_roundw
        case rel => exact ⟨k + 1, by omega, by rw [HNX.out]; rfl, by go_num, B5⟩
        case measure => simp [intOf]; omega
    · have dq : decide ((k : Int) < n) = false := by simp; omega
      obtain rfl : k = n := by omega
      have d4 : decide ((k : Int) ≤ 4) = decide (k ≤ 4) := by rw [decide_eq_decide]; omega
      have HE : Hid (fewL s U k = ((fewH s && lights U k) && decide (k ≤ 4))) := Lib.hid rfl
      obtain ⟨q, hq⟩ : ∃ q, q = (fewH s && lights U k) := ⟨_, rfl⟩
      rw [← hq] at HE ⊢
      clear hq hlt
      by_cases h4 : k ≤ 4
      · have d5 : decide ((k : Int) ≤ 4) = true := by simp; omega
        rw [decide_eq_true h4] at HE
        clear d4
        cases q
        · go_wp2
          go_ret
          exact ⟨by rw [HE.out]; rfl, HB.out⟩
        · go_wp2
          go_ret
          exact ⟨by rw [HE.out]; rfl, HB.out⟩
      · have d5 : decide ((k : Int) ≤ 4) = false := by simp; omega
        rw [decide_eq_false h4] at HE
        clear d4
        cases q
        · go_wp2
          go_ret
          exact ⟨by rw [HE.out]; rfl, HB.out⟩
        · go_wp2
          go_ret
          exact ⟨by rw [HE.out]; rfl, HB.out⟩
end Go.Proofs.YtcbnefjfoeanoaaGreatDoor.Rp
end
section
namespace Go.Proofs.YtcbnefjfoeanoaaGreatDoor.Rp
open Go.Proofs.YtcbnefjfoeanoaaGreatDoor
open Go.RowKit
set_option maxRecDepth 100000

structure Kt (w W : World) (s t : Hs) (d d' : Hd_) (A : Option Addr) (n : Nat) (us : List Int) : Prop where
  bel : Below w.heap.size w W
  b1 : HBox W w.heap.size s
  b2 : HBox W (w.heap.size + 1) t
  hp : Hp W W.heap.size s d
  hq : Hp W W.heap.size t d'
  row : Row W W.heap.size A n us
section
variable {w W W' : World} {s t : Hs} {d d' : Hd_} {A : Option Addr} {n : Nat} {us : List Int}
theorem Kt.next (h : Kt w W s t d d' A n us) (hb : Below W.heap.size W W') : Kt w W' s t d d' A n us := ⟨h.bel.trans (hb.mono h.bel.size), h.b1.next hb, h.b2.next hb, h.hp.next hb, h.hq.next hb, row_next h.row hb⟩
theorem kt_start {u : World} (hp : Hp w w.heap.size s d) (hq : Hp w w.heap.size t d') (h : u = (w.alloc (.cells #[.slice s.w.a s.w.n s.w.c, .slice s.p.a s.p.n s.p.c, .slice (s.u 0).a (s.u 0).n (s.u 0).c, .slice (s.u 1).a (s.u 1).n (s.u 1).c, .slice (s.u 2).a (s.u 2).n (s.u 2).c, .slice s.c.a s.c.n s.c.c] 28)).alloc (.cells #[.slice t.w.a t.w.n t.w.c, .slice t.p.a t.p.n t.p.c, .slice (t.u 0).a (t.u 0).n (t.u 0).c, .slice (t.u 1).a (t.u 1).n (t.u 1).c, .slice (t.u 2).a (t.u 2).n (t.u 2).c, .slice t.c.a t.c.n t.c.c] 28)) : Kt w u s t d d' none 0 [] := by
  obtain ⟨W1, h1⟩ : ∃ W1, W1 = w.alloc (.cells #[.slice s.w.a s.w.n s.w.c, .slice s.p.a s.p.n s.p.c, .slice (s.u 0).a (s.u 0).n (s.u 0).c, .slice (s.u 1).a (s.u 1).n (s.u 1).c, .slice (s.u 2).a (s.u 2).n (s.u 2).c, .slice s.c.a s.c.n s.c.c] 28) := ⟨_, rfl⟩
  rw [← h1] at h
  have z1 : W1.heap.size = w.heap.size + 1 := by rw [h1]; simp
  have b1 : Below w.heap.size w W1 := by rw [h1]; exact (Below.refl _ _).alloc (Nat.le_refl _) _
  have b2 : Below W1.heap.size W1 u := by rw [h]; exact (Below.refl _ _).alloc (Nat.le_refl _) _
  have x1 : HBox W1 w.heap.size s := by rw [h1]; exact HBox.new w s _
  have x2 : HBox u (w.heap.size + 1) t := by rw [h, ← z1]; exact HBox.new W1 t _
  exact ⟨b1.trans (b2.mono (by omega)), x1.next b2, x2, (hp.next b1).next b2, (hq.next b1).next b2, Row.none_ _ _⟩
theorem kt_keep1 {bb off q : Nat} {y : Int} (h : (Kt w W s t d d' (some ⟨bb, off, none⟩) n us ∧ True) ∧ bb < W.heap.size ∧ W.cell? ⟨bb, off + q, none⟩ = some (.int .i64 y)) (hb : Below W.heap.size W W') :
    ((Kt w W' s t d d' (some ⟨bb, off, none⟩) n us ∧ True) ∧ bb < W'.heap.size ∧ W'.cell? ⟨bb, off + q, none⟩ = some (.int .i64 y)) ∧ bb < W'.heap.size ∧ W'.cell? ⟨bb, off + q, none⟩ = some (.int .i64 y) ∧ w.heap.size < W'.heap.size ∧ W'.cell? ⟨w.heap.size, 1, none⟩ = some (.slice s.p.a s.p.n s.p.c) := by
  have k := h.1.1.next hb
  have c := (hb.cell (p := ⟨bb, off + q, none⟩) h.2.1).trans h.2.2
  have l := Nat.lt_of_lt_of_le h.2.1 hb.size
  exact ⟨⟨⟨k, trivial⟩, l, c⟩, l, c, k.b1.lt, k.b1.c1⟩
theorem kt_keep2 {bb off q : Nat} {y : Int} (h : (Kt w W s t d d' (some ⟨bb, off, none⟩) n us ∧ True) ∧ bb < W.heap.size ∧ W.cell? ⟨bb, off + q, none⟩ = some (.int .i64 y)) (hb : Below W.heap.size W W') :
    ((Kt w W' s t d d' (some ⟨bb, off, none⟩) n us ∧ True) ∧ bb < W'.heap.size ∧ W'.cell? ⟨bb, off + q, none⟩ = some (.int .i64 y)) ∧ bb < W'.heap.size ∧ W'.cell? ⟨bb, off + q, none⟩ = some (.int .i64 y) ∧ w.heap.size + 1 < W'.heap.size ∧ W'.cell? ⟨w.heap.size + 1, 1, none⟩ = some (.slice t.p.a t.p.n t.p.c) := by
  have k := h.1.1.next hb
  have c := (hb.cell (p := ⟨bb, off + q, none⟩) h.2.1).trans h.2.2
  have l := Nat.lt_of_lt_of_le h.2.1 hb.size
  exact ⟨⟨⟨k, trivial⟩, l, c⟩, l, c, k.b2.lt, k.b2.c1⟩
end
theorem used_len (s : Hs) (d : Hd_) : (usedL s d).length ≤ 512 := by
  unfold usedL usedF
  split
  · exact Nat.le_trans (List.length_filter_le _ _) (allS_len _ _)
  · exact Nat.zero_le _
set_option maxHeartbeats 4000000 in
theorem kept_yes (s t : Hs) (d d' : Hd_) (a : Int) (w : World) (hp : Hp w w.heap.size s d) (hq : Hp w w.heap.size t d') (hz : Cl.Sz w) (hf : Fine s d) (h1 : t.w.n = s.w.n) (h2 : t.p.n = s.p.n) (hwp : s.w.n = 16 * s.p.n) (h64 : s.p.n ≤ 64)
    (hus : ∀ y ∈ usedL s d, ¬ Cl.bg d.f s.p.n y = 0 ∧ (¬ y = a → Same4 s.p.n d d' y)) : Calls Tryz.prog 27 #[(.agg #[.slice s.w.a s.w.n s.w.c, .slice s.p.a s.p.n s.p.c, .slice (s.u 0).a (s.u 0).n (s.u 0).c, .slice (s.u 1).a (s.u 1).n (s.u 1).c, .slice (s.u 2).a (s.u 2).n (s.u 2).c, .slice s.c.a s.c.n s.c.c]), (.agg #[.slice t.w.a t.w.n t.w.c, .slice t.p.a t.p.n t.p.c, .slice (t.u 0).a (t.u 0).n (t.u 0).c, .slice (t.u 1).a (t.u 1).n (t.u 1).c, .slice (t.u 2).a (t.u 2).n (t.u 2).c, .slice t.c.a t.c.n t.c.c]), .int .i64 a] w fun e w' => e = .returned (.bool true) ∧ Below w.heap.size w w' := by
  have hz0 := hz.pos
  have HZ := Lib.hid hz
  have HFI := Lib.hid hf
  have HP := Lib.hid hp
  have HQ := Lib.hid hq
  have hul := used_len s d
  obtain ⟨us, hue⟩ : ∃ us, us = usedL s d := ⟨_, rfl⟩
  rw [← hue] at hul hus
  have HUE := Lib.hid hue
  have HUS := Lib.hid hus
  have HUL := Lib.hid hul
  have HWP := Lib.hid hwp
  have H64 := Lib.hid h64
  have HB1 : Hid (∀ (y : Int) W A n, Kt w W s t d d' A n us → Calls Tryz.prog 18 #[.slice s.p.a s.p.n s.p.c, .int .i64 y] W fun e w' => e = .returned (.int .i64 (Cl.bg d.f s.p.n y)) ∧ Below W.heap.size W w') := Lib.hid (fun y W A n h => Cl.rbegins_any W.heap.size s.p.a s.p.n s.p.c d.f y W (by omega) h.hp.pages (Nat.le_refl _))
  have HB2 : Hid (∀ (y : Int) W A n, Kt w W s t d d' A n us → Calls Tryz.prog 18 #[.slice t.p.a t.p.n t.p.c, .int .i64 y] W fun e w' => e = .returned (.int .i64 (Cl.bg d'.f s.p.n y)) ∧ Below W.heap.size W w') := Lib.hid (fun y W A n h => by
    have := Cl.rbegins_any W.heap.size t.p.a t.p.n t.p.c d'.f y W (by omega) h.hq.pages (Nat.le_refl _)
    exact this.mono fun _ _ hh => by rw [h2] at hh; exact hh)
  have HW1 := Lib.hid h1
  have dW : ((t.w.n : Int) != (s.w.n : Int)) = false := by rw [h1]; simp
  clear hp hq hz hf hue hus hul hwp h64 h2 h1
  go_enter Tryz.func27, Tryz.ntmps27
  go_wp2_with fail
  obtain ⟨W1, hW1⟩ : ∃ W1, W1 = (w.alloc (.cells #[.slice s.w.a s.w.n s.w.c, .slice s.p.a s.p.n s.p.c, .slice (s.u 0).a (s.u 0).n (s.u 0).c, .slice (s.u 1).a (s.u 1).n (s.u 1).c, .slice (s.u 2).a (s.u 2).n (s.u 2).c, .slice s.c.a s.c.n s.c.c] 28)).alloc (.cells #[.slice t.w.a t.w.n t.w.c, .slice t.p.a t.p.n t.p.c, .slice (t.u 0).a (t.u 0).n (t.u 0).c, .slice (t.u 1).a (t.u 1).n (t.u 1).c, .slice (t.u 2).a (t.u 2).n (t.u 2).c, .slice t.c.a t.c.n t.c.c] 28) := ⟨_, rfl⟩
  have K1 := Lib.hid (kt_start HP.out HQ.out hW1)
  rw [← hW1]
  clear hW1
  refine (pused_any s d W1 K1.out.hp (HZ.out.over K1.out.bel hz0) HFI.out).mono ?_
  rw [← HUE.out]
  rintro e w2 ⟨v2, rfl, ho2, hb2⟩
  obtain ⟨a2, c2, e2, hk2, _, _⟩ := Ls.owns_row ho2
  simp only [Value.slice.injEq, true_and] at e2
  obtain ⟨rfl, rfl⟩ := e2
  obtain ⟨va, n, vc⟩ := v2
  dsimp only at hk2 ⊢
  have k := K1.out.next hb2
  have K2 := Lib.hid (show Kt w w2 s t d d' va n us from ⟨k.bel, k.b1, k.b2, k.hp, k.hq, hk2⟩)
  have HN : Hid (us.length = n) := Lib.hid hk2.1
  have hn : n ≤ 512 := by have g1 := HN.out; have g2 := HUL.out; omega
  clear hb2 ho2 hk2 K1 k
  have q0 := K2.out.b1.c0
  have ql := K2.out.b1.lt
  have p0 := K2.out.b2.c0
  have pl := K2.out.b2.lt
  go_wp2
  clear q0 ql p0 pl dW
  go_loopw [8, 9, 10] (fun i _ _ wr => ∃ k : Nat, k ≤ n ∧ i = .int .i64 k ∧ Hid (Kt w wr s t d d' va n us)) (fun i _ _ _ => n - (intOf i).toNat)
  case atStart => exact ⟨0, Nat.zero_le _, rfl, K2⟩
  case round =>
    obtain ⟨k, hk, rfl, HK⟩ := hrel
    clear K2
    by_cases hlt : k < n
    · have dq : decide ((k : Int) < n) = true := by simp; omega
      have dq2 : decide ((n : Int) ≤ k) = false := by simp; omega
      have dq3 : decide (n ≤ k) = false := by simp; omega
      have iq0 : (0 : Int) ≤ k := by omega
      obtain ⟨bb, off, rfl, hbl, hcell⟩ := HK.out.row.2 (by omega)
      obtain ⟨y, hy⟩ : ∃ y, y = us.getD k 0 := ⟨_, rfl⟩
      have hq1 := hcell k hlt
      rw [← hy] at hq1
      have hyu := HUS.out y (by rw [hy]; exact getD_mem (by have := HN.out; omega))
      have hce := cell_end hyu.1
      have hw16 : 16 * s.p.n ≤ s.w.n := Nat.le_of_eq HWP.out.symm
      have hw17 : s.w.n ≤ 16 * s.p.n := Nat.le_of_eq HWP.out
      have h64 := H64.out
      obtain ⟨B, hB⟩ : ∃ B, B = Cl.bg d.f s.p.n y := ⟨_, rfl⟩
      have C1 := Lib.hid (fun W (h : Kt w W s t d d' (some ⟨bb, off, none⟩) n us) => HB1.out y W _ _ h)
      have C2 := Lib.hid (fun W (h : Kt w W s t d d' (some ⟨bb, off, none⟩) n us) => HB2.out y W _ _ h)
      have HSM := Lib.hid hyu.2
      rw [← hB] at hce C1
      have HS2 : Hid ((Kt w wr s t d d' (some ⟨bb, off, none⟩) n us ∧ True) ∧ bb < wr.heap.size ∧ wr.cell? ⟨bb, off + k, none⟩ = some (.int .i64 y)) := Lib.hid ⟨⟨HK.out, trivial⟩, hbl, hq1⟩
      have HBE := Lib.hid hB
      have HY := Lib.hid hy
      clear hbl hq1 hcell HK hyu hy hB
      go_wp2_with fail
      go_region_held3 (fun W => ((Kt w W s t d d' (some ⟨bb, off, none⟩) n us ∧ True) ∧ bb < W.heap.size ∧ W.cell? ⟨bb, off + k, none⟩ = some (.int .i64 y)) ∧ bb < W.heap.size ∧ W.cell? ⟨bb, off + k, none⟩ = some (.int .i64 y) ∧ w.heap.size < W.heap.size ∧ W.cell? ⟨w.heap.size, 1, none⟩ = some (.slice s.p.a s.p.n s.p.c)) (first
        | exact kt_keep1 HS2.out (below_drawn' (Below.refl _ _) 1)
        | exact kt_keep1 (‹((Kt w _ s t d d' _ _ _ ∧ True) ∧ _) ∧ _›).1 ‹Below _ _ _›) (first
        | ((go_at_call 18; (with_reducible refine (C1.out _ (‹((Kt w _ s t d d' _ _ _ ∧ True) ∧ _) ∧ _›).1.1.1).mono ?_); rintro e' w8 ⟨rfl, hb8⟩)))
      have HS3 := Lib.hid (‹((Kt w w8 s t d d' _ _ _ ∧ True) ∧ _) ∧ _›).1
      clear HS2 C1
      have c3 := HS3.out.2.2
      have l3 := HS3.out.2.1
      by_cases hya : y = a
      · have d6 : (y == a) = true := by simp [hya]
        clear hya
        go_wp2
        go_roundw
        case rel => exact ⟨k + 1, by omega, by go_num, Lib.hid HS3.out.1.1⟩
        case measure => simp [intOf]; omega
      · have d6 : (y == a) = false := by simp [hya]
        have HSA := Lib.hid (HSM.out hya)
        rw [HSA.out.bg, ← HBE.out] at C2
        have dB : (B != B) = false := by simp
        clear hya HSM
        go_wp2_with fail
        clear c3 l3
        go_region_held3 (fun W => ((Kt w W s t d d' (some ⟨bb, off, none⟩) n us ∧ True) ∧ bb < W.heap.size ∧ W.cell? ⟨bb, off + k, none⟩ = some (.int .i64 y)) ∧ bb < W.heap.size ∧ W.cell? ⟨bb, off + k, none⟩ = some (.int .i64 y) ∧ w.heap.size + 1 < W.heap.size ∧ W.cell? ⟨w.heap.size + 1, 1, none⟩ = some (.slice t.p.a t.p.n t.p.c)) (first
          | exact kt_keep2 HS3.out (below_drawn' (Below.refl _ _) 1)
          | exact kt_keep2 (‹((Kt w _ s t d d' _ _ _ ∧ True) ∧ _) ∧ _›).1 ‹Below _ _ _›) (first
          | ((go_at_call 18; (with_reducible refine (C2.out _ (‹((Kt w _ s t d d' _ _ _ ∧ True) ∧ _) ∧ _›).1.1.1).mono ?_); rintro e' w9 ⟨rfl, hb9⟩)))
        have HS4 := Lib.hid (‹((Kt w w9 s t d d' _ _ _ ∧ True) ∧ _) ∧ _›).1
        clear HS3 C2
        obtain ⟨b, rfl⟩ : ∃ b : Nat, B = b := ⟨B.toNat, by omega⟩
        have hb9 : b ≤ 2000 := by omega
        go_wp2
        go_loopw [10] (fun j wi => ∃ q : Nat, q ≤ b ∧ j = .int .i64 q ∧ Hid (Kt w wi s t d d' (some ⟨bb, off, none⟩) n us)) (fun j _ => b - (intOf j).toNat)
        case atStart => exact ⟨0, Nat.zero_le _, rfl, Lib.hid HS4.out.1.1⟩
        case round =>
          obtain ⟨q, hq, rfl, HI⟩ := hrel
          clear HS4
          by_cases hlq : q < b
          · have dj : decide ((q : Int) < b) = true := by simp; omega
            obtain ⟨i, hi⟩ : ∃ i : Nat, y + (q : Int) - 16 = i := ⟨(y + q - 16).toNat, by omega⟩
            have hin : i < s.w.n := by omega
            obtain ⟨b5, o5, e5, hl5, hc5⟩ := HI.out.row.2 (by omega)
            cases e5
            have g1 := hc5 k hlt
            rw [← HY.out] at g1
            obtain ⟨b6, o6, e6, hl6, hc6⟩ := HI.out.hp.words.2 (by omega)
            obtain ⟨b7, o7, e7, hl7, hc7⟩ := HI.out.hq.words.2 (by rw [HW1.out]; omega)
            have g6 := hc6 i hin
            have g7 := hc7 i (by rw [HW1.out]; exact hin)
            have hsame := HSA.out.wd (y + q) (by omega) (by rw [← HBE.out]; omega)
            unfold wd at hsame
            rw [show (y + (q : Int) - 16).toNat = i by omega] at hsame
            rw [hsame] at g7
            obtain ⟨z, hzz⟩ : ∃ z, z = d.ws.getD i 0 := ⟨_, rfl⟩
            rw [← hzz] at g6 g7
            have q0 := HI.out.b1.c0
            have ql := HI.out.b1.lt
            have p0 := HI.out.b2.c0
            have pl := HI.out.b2.lt
            rw [e6] at q0
            rw [e7, HW1.out] at p0
            have dz : (z != z) = false := by simp
            have i0 : (0 : Int) ≤ i := by omega
            have i1 : (i : Int) < s.w.n := by omega
            have w1 : IntKind.i64.wrap (y + (q : Int)) = y + q := by simp [IntKind.wrap, IntKind.signed, IntKind.bits]; omega
            have w2 : IntKind.i64.wrap (i : Int) = i := by simp [IntKind.wrap, IntKind.signed, IntKind.bits]; omega
            have k1 : (k : Int) < n := by omega
            clear hc5 hc6 hc7 e6 e7 hsame hzz hce hw16 hw17 h64 hin
            go_wp2_with fail
            go_quiet (fail)
            have HI2 := Lib.hid (HI.out.next (below_drawn' (Below.refl _ _) nq))
            go_wp2
            go_roundw
            case rel => exact ⟨q + 1, by omega, by go_num, HI2⟩
            case measure => simp [intOf]; omega
          · obtain rfl : q = b := by omega
            have dj : decide ((q : Int) < q) = false := by simp
            go_wp2
            go_roundw
            case rel => exact ⟨k + 1, by omega, by go_num, HI⟩
            case measure => simp [intOf]; omega
    · obtain rfl : k = n := by omega
      have dq : decide ((k : Int) < k) = false := by simp
      clear hlt
      go_wp2
      go_ret
      exact ⟨rfl, HK.out.bel⟩
end Go.Proofs.YtcbnefjfoeanoaaGreatDoor.Rp
end
section
namespace Go.Proofs.YtcbnefjfoeanoaaGreatDoor.Rp
open Go.Proofs.YtcbnefjfoeanoaaGreatDoor
open Go.RowKit
set_option maxRecDepth 100000

theorem bl_alloc {w W : World} (h : Below w.heap.size w W) (v : Obj) : Below w.heap.size w (W.alloc v) := h.alloc h.size v
theorem bl_drew {w W : World} (h : Below w.heap.size w W) : Below w.heap.size w W.drew := below_drawn' h 1
theorem bl_call {w W W' : World} (h : Below w.heap.size w W) (hb : Below W.heap.size W W') : Below w.heap.size w W' := h.trans (hb.mono h.size)
theorem bl_set {w W : World} (h : Below w.heap.size w W) {b o : Nat} (hb : w.heap.size ≤ b) (v : Value) : Below w.heap.size w (W.setCell ⟨b, o, none⟩ v) := h.setCell (p := ⟨b, o, none⟩) hb _
structure Lx (w W : World) (A : Option Addr) (n : Nat) (U : Nat → Nat → Ls.Sl) (F : Nat → Nat → List Int) (hs : List (Nat × Hs × Hd_)) : Prop where
  bel : Below w.heap.size w W
  lr : Ls.LRow W W.heap.size A n U F
  h : ∀ x ∈ hs, HBox W x.1 x.2.1 ∧ Hp W W.heap.size x.2.1 x.2.2
section
variable {w w3 W W' : World} {s t t1 t2 : Hs} {d d1 d2 : Hd_} {A : Option Addr} {n b b1 b2 : Nat} {U : Nat → Nat → Ls.Sl} {F : Nat → Nat → List Int} {hs : List (Nat × Hs × Hd_)} {ty : TypeId}
theorem Lx.next (h : Lx w W A n U F hs) (hb : Below W.heap.size W W') : Lx w W' A n U F hs := ⟨h.bel.trans (hb.mono h.bel.size), lrow_more (h.lr.below hb) hb.size, fun x hx => ⟨(h.h x hx).1.next hb, (h.h x hx).2.next hb⟩⟩
theorem Lx.at (h : Lx w W A n U F hs) (b : Nat) (s : Hs) (d : Hd_) (hm : (b, s, d) ∈ hs) : HBox W b s := (h.h _ hm).1
theorem Lx.hp (h : Lx w W A n U F hs) (b : Nat) (s : Hs) (d : Hd_) (hm : (b, s, d) ∈ hs) : Hp W W.heap.size s d := (h.h _ hm).2
/-- A heap in new memory. -/
structure Nw (w3 W : World) (b : Nat) (t : Hs) (d : Hd_) : Prop where
  bel : Below w3.heap.size w3 W
  box : HBox W b t
  hp : Hp W W.heap.size t d
theorem Lx.add (h : Lx w w3 A n U F hs) (k : Nw w3 W b t d) : Lx w W A n U F ((b, t, d) :: hs) := by
  have h1 := h.next k.bel
  refine ⟨h1.bel, h1.lr, fun x hx => ?_⟩
  rcases List.mem_cons.1 hx with rfl | hx
  · exact ⟨k.box, k.hp⟩
  · exact h1.h x hx
theorem nw_new (bel : Below w3.heap.size w3 W) (hp : Hp W W.heap.size t d) : Nw w3 (W.alloc (.cells #[.slice t.w.a t.w.n t.w.c, .slice t.p.a t.p.n t.p.c, .slice (t.u 0).a (t.u 0).n (t.u 0).c, .slice (t.u 1).a (t.u 1).n (t.u 1).c, .slice (t.u 2).a (t.u 2).n (t.u 2).c, .slice t.c.a t.c.n t.c.c] ty)) W.heap.size t d :=
  have b2 : Below W.heap.size W (W.alloc (.cells #[.slice t.w.a t.w.n t.w.c, .slice t.p.a t.p.n t.p.c, .slice (t.u 0).a (t.u 0).n (t.u 0).c, .slice (t.u 1).a (t.u 1).n (t.u 1).c, .slice (t.u 2).a (t.u 2).n (t.u 2).c, .slice t.c.a t.c.n t.c.c] ty)) := (Below.refl _ _).alloc (Nat.le_refl _) _
  ⟨bl_call bel b2, HBox.new W t ty, hp.next b2⟩
theorem lx_start (hp : Hp w w.heap.size s d) (hl : Ls.LRow w w.heap.size A n U F) (h : W = w.alloc (.cells #[.slice s.w.a s.w.n s.w.c, .slice s.p.a s.p.n s.p.c, .slice (s.u 0).a (s.u 0).n (s.u 0).c, .slice (s.u 1).a (s.u 1).n (s.u 1).c, .slice (s.u 2).a (s.u 2).n (s.u 2).c, .slice s.c.a s.c.n s.c.c] ty)) : Lx w W A n U F [(w.heap.size, s, d)] := by
  have b1 : Below w.heap.size w W := by rw [h]; exact (Below.refl _ _).alloc (Nat.le_refl _) _
  refine ⟨b1, lrow_more (hl.below b1) b1.size, fun x hx => ?_⟩
  obtain rfl := List.mem_singleton.1 hx
  exact ⟨by rw [h]; exact HBox.new w s _, hp.next b1⟩
theorem six_of (h : HBox W b s) : b < W.heap.size ∧ W.cell? ⟨b, 0, none⟩ = some (.slice s.w.a s.w.n s.w.c) ∧ W.cell? ⟨b, 1, none⟩ = some (.slice s.p.a s.p.n s.p.c) ∧ W.cell? ⟨b, 2, none⟩ = some (.slice (s.u 0).a (s.u 0).n (s.u 0).c) ∧ W.cell? ⟨b, 3, none⟩ = some (.slice (s.u 1).a (s.u 1).n (s.u 1).c) ∧ W.cell? ⟨b, 4, none⟩ = some (.slice (s.u 2).a (s.u 2).n (s.u 2).c) ∧ W.cell? ⟨b, 5, none⟩ = some (.slice s.c.a s.c.n s.c.c) := ⟨h.lt, h.c0, h.c1, h.c2, h.c3, h.c4, h.c5⟩
/-- What the region of a call of the first cache has. -/
theorem lx_keepF {bb off : Nat} (u : Nat → Ls.Sl) (m1 : (b1, t1, d1) ∈ hs) (L : Lx w w3 (some ⟨bb, off, none⟩) n U F hs) (hn : 0 < n) (hu : U 0 = u) (hb : Below w3.heap.size w3 W) :
    (Below w3.heap.size w3 W ∧ True) ∧ (b1 < W.heap.size ∧ W.cell? ⟨b1, 0, none⟩ = some (.slice t1.w.a t1.w.n t1.w.c) ∧ W.cell? ⟨b1, 1, none⟩ = some (.slice t1.p.a t1.p.n t1.p.c) ∧ W.cell? ⟨b1, 2, none⟩ = some (.slice (t1.u 0).a (t1.u 0).n (t1.u 0).c) ∧ W.cell? ⟨b1, 3, none⟩ = some (.slice (t1.u 1).a (t1.u 1).n (t1.u 1).c) ∧ W.cell? ⟨b1, 4, none⟩ = some (.slice (t1.u 2).a (t1.u 2).n (t1.u 2).c) ∧ W.cell? ⟨b1, 5, none⟩ = some (.slice t1.c.a t1.c.n t1.c.c)) ∧ bb < W.heap.size ∧ W.cell? ⟨bb, off, none⟩ = some (.slice (u 0).a (u 0).n (u 0).c) ∧ W.cell? ⟨bb, off + 1, none⟩ = some (.slice (u 1).a (u 1).n (u 1).c) ∧ W.cell? ⟨bb, off + 2, none⟩ = some (.slice (u 2).a (u 2).n (u 2).c) := by
  have M := L.next hb
  obtain ⟨b', off', e, hbl, hc⟩ := M.lr hn
  cases e
  have c0 := (hc 0 hn).1 0 (by decide)
  have c1 := (hc 0 hn).1 1 (by decide)
  have c2 := (hc 0 hn).1 2 (by decide)
  rw [hu] at c0 c1 c2
  simp only [Nat.zero_mul, Nat.add_zero] at c0 c1 c2
  exact ⟨⟨hb, trivial⟩, six_of (M.at b1 t1 d1 m1), hbl, c0, c1, c2⟩
end
/-- How great a heap and caches are. -/
structure Lite9 (s : Hs) (d : Hd_) (n : Nat) (F : Nat → Nat → List Int) (B : Nat) : Prop where
  w : s.w.n ≤ 130
  p : s.p.n ≤ 9
  c : s.c.n ≤ 20
  lF : ∀ j, j < 3 → (d.F j).length ≤ B
  lG : ∀ i, i < n → ∀ j, j < 3 → (F i j).length ≤ 70
  n4 : n ≤ 4
  hv : Fit64 d.ws
theorem lite9_few {w : World} {B : Nat} {s : Hs} {d : Hd_} {n : Nat} {A : Option Addr} {U : Nat → Nat → Ls.Sl} {F : Nat → Nat → List Int} (h : fewL s U n = true) (hp : Hp w B s d) (hl : Ls.LRow w B A n U F) (hv : Fit64 d.ws) : Lite9 s d n F 70 := by
  unfold fewL lights at h
  simp only [Bool.and_eq_true, decide_eq_true_eq] at h
  have hall := List.all_eq_true.1 h.1.2
  obtain ⟨h1, h2, h3, h4⟩ := few_parts h.1.1
  unfold lightB at h4
  simp only [decide_eq_true_eq] at h4
  refine ⟨h1, h2, h3, fun j hj => ?_, fun i hi j hj => ?_, h.2, hv⟩
  · have := hp.free.len j hj
    rcases (show j = 0 ∨ j = 1 ∨ j = 2 by omega) with rfl | rfl | rfl <;> omega
  · obtain ⟨b, off, _, _, hc⟩ := hl (by omega)
    have g := hall i (List.mem_range.2 hi)
    unfold lightB at g
    simp only [decide_eq_true_eq] at g
    have := (hc i hi).2.len j hj
    rcases (show j = 0 ∨ j = 1 ∨ j = 2 by omega) with rfl | rfl | rfl <;> omega
section
variable {s t : Hs} {d d' : Hd_} {n B C : Nat} {F : Nat → Nat → List Int}
theorem Lite9.fine (h : Lite9 s d n F B) (hB : B ≤ 1000) : Fine s d := by
  have f0 := h.lF 0 (by decide)
  have f1 := h.lF 1 (by decide)
  have f2 := h.lF 2 (by decide)
  have := h.w
  have := h.p
  have := h.c
  exact ⟨by omega, by omega, by omega, h.hv, by rw [upTo3]; omega⟩
theorem Lite9.all (h : Lite9 s d n F B) (hB : B ≤ 1000) : (Ls.allOf (ahead d.F F) (1 + n)).length ≤ 2000000 := by
  have f0 := h.lF 0 (by decide)
  have f1 := h.lF 1 (by decide)
  have f2 := h.lF 2 (by decide)
  have key : ∀ m, m ≤ 1 + n → (Ls.allOf (ahead d.F F) m).length ≤ 3000 * m := fun m => by
    induction m with
    | zero => intro _; simp [Ls.allOf]
    | succ m ih =>
      intro hm
      rw [Ls.allOf_succ, List.length_append, upTo3]
      have := ih (by omega)
      cases m with
      | zero => simp only [ahead]; omega
      | succ i => have a0 := h.lG i (by omega) 0 (by decide); have a1 := h.lG i (by omega) 1 (by decide); have a2 := h.lG i (by omega) 2 (by decide); simp only [ahead]; omega
  have := key (1 + n) (Nat.le_refl _)
  have := h.n4
  omega
theorem Lite9.fineT (h : Lite9 s d n F B) (hB : B ≤ 1000) (hs : ∀ j, j < 3 → (s.u j).n = (d.F j).length) (u : Nat → Ls.Sl) (G : Nat → List Int) (hG : ∀ j, j < 3 → (G j).length ≤ 1000) (hu : ∀ j, j < 3 → (u j).n = (G j).length) : FineT s d u G := by
  have f0 := h.lF 0 (by decide)
  have f1 := h.lF 1 (by decide)
  have f2 := h.lF 2 (by decide)
  have g0 := hG 0 (by decide)
  have g1 := hG 1 (by decide)
  have g2 := hG 2 (by decide)
  refine ⟨h.fine hB, fun j hj => by have := hs j hj; have := h.lF j hj; omega, fun j hj => by have := hu j hj; have := hG j hj; omega, ?_⟩
  rw [show Ls.allOf (ahead d.F (fun _ => G)) (1 + 1) = Ls.upTo d.F 3 ++ Ls.upTo G 3 by simp [Ls.allOf, List.range_succ, ahead], List.length_append, upTo3, upTo3]
  omega
theorem Lite9.less (h : Lite9 s d n F B) {m : Nat} {G : Nat → Nat → List Int} (hm : m ≤ n) (hG : ∀ i, i < m → ∃ k, k < n ∧ G i = F k) : Lite9 s d m G B :=
  ⟨h.w, h.p, h.c, h.lF, fun i hi j hj => by obtain ⟨k, hk, e⟩ := hG i hi; rw [e]; exact h.lG k hk j hj, by have := h.n4; omega, h.hv⟩
theorem wipe_or : ∀ (k o : Nat) (xs : List Int) (i : Nat), (Ar.wipe xs o k).getD i 0 = 0 ∨ (Ar.wipe xs o k).getD i 0 = xs.getD i 0
  | 0, _, _, _ => .inr rfl
  | k + 1, o, xs, i => by
    rcases wipe_or k (o + 1) (xs.set o 0) i with h | h
    · exact .inl h
    · rw [Ar.wipe, h, getD_set]
      split
      · exact .inl rfl
      · exact .inr rfl
theorem back_ws (d : Hd_) (p : Nat) : (backD d p).ws = d.ws := by
  unfold backD
  split <;> rfl
theorem back_len (d : Hd_) (p j : Nat) : ((backD d p).F j).length ≤ (d.F j).length := by
  unfold backD
  split
  · show (Ls.upd d.F _ _ j).length ≤ _
    unfold Ls.upd
    split
    · next e => rw [e]; exact List.length_filter_le _ _
    · exact Nat.le_refl _
  · exact Nat.le_refl _
theorem freed_lens (d : Hd_) (n : Nat) (a : Int) : (∀ j, ((freedD d n a).F j).length ≤ (d.F j).length + 1) ∧ ∀ i, (freedD d n a).ws.getD i 0 = 0 ∨ (freedD d n a).ws.getD i 0 = d.ws.getD i 0 := by
  unfold freedD
  split
  · refine ⟨fun j => Nat.le_trans (back_len _ _ j) ?_, fun i => ?_⟩
    · show (Ls.upd d.F _ _ j).length ≤ _
      unfold Ls.upd
      split
      · next e => rw [e, List.length_append]; exact Nat.le_refl _
      · omega
    · rw [back_ws]; exact wipe_or _ _ _ _
  · exact ⟨fun j => by show (d.F j).length ≤ _; omega, fun i => wipe_or _ _ _ _⟩
theorem Lite9.freed (h : Lite9 s d n F B) (a : Int) (hl : Same3 s t) : Lite9 t (freedD d s.p.n a) n F (B + 1) :=
  ⟨by rw [hl.1]; exact h.w, by rw [hl.2.1]; exact h.p, by rw [hl.2.2]; exact h.c, fun j hj => by have := (freed_lens d s.p.n a).1 j; have := h.lF j hj; omega, h.lG, h.n4, fun i => by
    have := h.hv i
    rcases (freed_lens d s.p.n a).2 i with e | e <;> rw [e] <;> omega⟩
end
end Go.Proofs.YtcbnefjfoeanoaaGreatDoor.Rp
end
section
namespace Go.Proofs.YtcbnefjfoeanoaaGreatDoor.Rp
open Go.Proofs.YtcbnefjfoeanoaaGreatDoor
open Go.RowKit
set_option maxRecDepth 100000

theorem may_first9 {s : Hs} {d : Hd_} {F : Nat → Nat → List Int} : ∀ {m : Nat}, 0 < m → mayH s d m F = true → mayH s d 1 (fun _ => F 0) = true := fun {m} => by
  induction m with
  | zero => intro h; omega
  | succ m ih =>
    intro _ h
    cases m with
    | zero =>
      unfold mayH freeAll at h ⊢
      rw [show Ls.allOf (ahead d.F fun _ => F 0) (1 + 1) = Ls.allOf (ahead d.F F) (1 + (0 + 1)) by simp [Ls.allOf, List.range_succ, ahead]]
      simpa [List.range_succ, ahead] using h
    | succ k => exact ih (by omega) (may_less h)
theorem lrow_tail {W : World} {B n bb off : Nat} {A' : Option Addr} {m : Nat} {U : Nat → Nat → Ls.Sl} {F : Nat → Nat → List Int} (h : Ls.LRow W B (some ⟨bb, off, none⟩) n U F) (hm : m = n - 1) (hA : 0 < m → A' = some ⟨bb, off + 3, none⟩) : Ls.LRow W B A' m (fun i => U (i + 1)) (behind F) := fun h0 => by
  obtain ⟨b', o', e, hlt, hc⟩ := h (by omega)
  cases e
  refine ⟨bb, off + 3, hA h0, hlt, fun i hi => ?_⟩
  have := hc (i + 1) (by omega)
  refine ⟨fun r hr => ?_, this.2⟩
  have h1 := this.1 r hr
  rwa [show off + (i + 1) * 3 + r = off + 3 + i * 3 + r by omega] at h1
theorem used_post (s : Hs) (d : Hd_) (w : World) (hp : Hp w w.heap.size s d) (hz : Cl.Sz w) (hf : Fine s d) (K : Nat) (hK : (usedL s d).length = K) : Calls Tryz.prog 17 #[(.agg #[.slice s.w.a s.w.n s.w.c, .slice s.p.a s.p.n s.p.c, .slice (s.u 0).a (s.u 0).n (s.u 0).c, .slice (s.u 1).a (s.u 1).n (s.u 1).c, .slice (s.u 2).a (s.u 2).n (s.u 2).c, .slice s.c.a s.c.n s.c.c])] w fun e w' => ∃ A' C', e = .returned (.slice A' K C') ∧ Below w.heap.size w w' :=
  (pused_any s d w hp hz hf).mono fun e w' ⟨v, he, ho, hb⟩ => by
    have hn : v.n = K := by have := ho.1; simp at this; omega
    exact ⟨v.a, v.c, by rw [he, hn], hb⟩
/-- What a law holds of a heap that is small, plainly. -/
structure Okl (s : Hs) (d : Hd_) : Prop where
  fine : Fine s d
  may : mayB0 s d = true
  ws : d.ws.length = s.w.n
theorem Okl.wp {s : Hs} {d : Hd_} (h : Okl s d) : s.w.n = 16 * s.p.n ∧ s.p.n ≤ 64 := by
  have := fit_first (mayH_all h.may).1
  exact ⟨this.wp, this.p⟩
theorem kept_call {s t : Hs} {d d' : Hd_} (a : Int) (w : World) (h : Okl s d) (hp : Hp w w.heap.size s d) (hq : Hp w w.heap.size t d') (hz : Cl.Sz w) (hl : t.w.n = s.w.n ∧ t.p.n = s.p.n ∧ t.c.n = s.c.n) (hk : ∀ y ∈ usedL s d, ¬ y = a → Same4 s.p.n d d' y) :
    Calls Tryz.prog 27 #[(.agg #[.slice s.w.a s.w.n s.w.c, .slice s.p.a s.p.n s.p.c, .slice (s.u 0).a (s.u 0).n (s.u 0).c, .slice (s.u 1).a (s.u 1).n (s.u 1).c, .slice (s.u 2).a (s.u 2).n (s.u 2).c, .slice s.c.a s.c.n s.c.c]), (.agg #[.slice t.w.a t.w.n t.w.c, .slice t.p.a t.p.n t.p.c, .slice (t.u 0).a (t.u 0).n (t.u 0).c, .slice (t.u 1).a (t.u 1).n (t.u 1).c, .slice (t.u 2).a (t.u 2).n (t.u 2).c, .slice t.c.a t.c.n t.c.c]), .int .i64 a] w fun e w' => e = .returned (.bool true) ∧ Below w.heap.size w w' :=
  kept_yes s t d d' a w hp hq hz h.fine hl.1 hl.2.1 h.wp.1 h.wp.2 fun y hy => ⟨((used_iff8 h.may).1 hy).1, hk y hy⟩
end Go.Proofs.YtcbnefjfoeanoaaGreatDoor.Rp
end
section
namespace Go.Proofs.YtcbnefjfoeanoaaGreatDoor.Rp
open Go.Proofs.YtcbnefjfoeanoaaGreatDoor
open Go.RowKit
set_option maxRecDepth 100000

theorem lens_of {w : World} {B : Nat} {s : Hs} {d : Hd_} {n C : Nat} {F : Nat → Nat → List Int} (hp : Hp w B s d) (h : Lite9 s d n F C) (hC : C ≤ 1000) : ∀ j, j < 3 → (s.u j).n ≤ 1000000 := fun j hj => by
  have h1 := hp.free.len j hj
  have h2 := h.lF j hj
  omega
theorem free_okc {s : Hs} {d : Hd_} (a : Int) (w : World) (h : Okl s d) (hu : ∀ j, j < 3 → (s.u j).n ≤ 1000000) (hp : Hp w w.heap.size s d) (hz : Cl.Sz w) (hE : headE s d a = 0) : Calls Tryz.prog 22 #[(.agg #[.slice s.w.a s.w.n s.w.c, .slice s.p.a s.p.n s.p.c, .slice (s.u 0).a (s.u 0).n (s.u 0).c, .slice (s.u 1).a (s.u 1).n (s.u 1).c, .slice (s.u 2).a (s.u 2).n (s.u 2).c, .slice s.c.a s.c.n s.c.c]), .int .i64 a] w fun e w' => ∃ t : Hs, e = .returned (.tuple #[(.agg #[.slice t.w.a t.w.n t.w.c, .slice t.p.a t.p.n t.p.c, .slice (t.u 0).a (t.u 0).n (t.u 0).c, .slice (t.u 1).a (t.u 1).n (t.u 1).c, .slice (t.u 2).a (t.u 2).n (t.u 2).c, .slice t.c.a t.c.n t.c.c]), .int .i64 0]) ∧ Hp w' w'.heap.size t (freedD d s.p.n a) ∧ (t.w.n = s.w.n ∧ t.p.n = s.p.n ∧ t.c.n = s.c.n) ∧ Below w.heap.size w w' := by
  have := free_any s d a w hp hz h.fine hu
  unfold rkFree at this
  rw [if_pos hE] at this
  exact this
theorem free_noc {s : Hs} {d : Hd_} (a : Int) (w : World) (h : Okl s d) (hu : ∀ j, j < 3 → (s.u j).n ≤ 1000000) (hp : Hp w w.heap.size s d) (hz : Cl.Sz w) (hE : ¬ headE s d a = 0) : Calls Tryz.prog 22 #[(.agg #[.slice s.w.a s.w.n s.w.c, .slice s.p.a s.p.n s.p.c, .slice (s.u 0).a (s.u 0).n (s.u 0).c, .slice (s.u 1).a (s.u 1).n (s.u 1).c, .slice (s.u 2).a (s.u 2).n (s.u 2).c, .slice s.c.a s.c.n s.c.c]), .int .i64 a] w fun e w' => ∃ t : Hs, e = .returned (.tuple #[(.agg #[.slice t.w.a t.w.n t.w.c, .slice t.p.a t.p.n t.p.c, .slice (t.u 0).a (t.u 0).n (t.u 0).c, .slice (t.u 1).a (t.u 1).n (t.u 1).c, .slice (t.u 2).a (t.u 2).n (t.u 2).c, .slice t.c.a t.c.n t.c.c]), .int .i64 (headE s d a)]) ∧ Hp w' w'.heap.size t dNone ∧ True ∧ Below w.heap.size w w' := by
  have := free_any s d a w hp hz h.fine hu
  unfold rkFree at this
  rw [if_neg hE] at this
  exact this.mono fun _ _ ⟨t, h1, h2, _, h4⟩ => ⟨t, h1, h2, trivial, h4⟩
theorem Okl.freed {s t : Hs} {d : Hd_} {n B : Nat} {F : Nat → Nat → List Int} {a : Int} (h : Okl s d) (hli : Lite9 s d n F B) (hB : B ≤ 900) (hE : headE s d a = 0) (hl : t.w.n = s.w.n ∧ t.p.n = s.p.n ∧ t.c.n = s.c.n) : Okl t (freedD d s.p.n a) :=
  ⟨(hli.freed (t := t) a hl).fine (by omega), freed_may0 (t := t) h.ws hE hl, by rw [(freed_is h.ws hE).len, h.ws, hl.1]⟩
theorem gone_freed {s t : Hs} {d : Hd_} {a : Int} (h : Okl s d) (hE : headE s d a = 0) (hl : t.w.n = s.w.n ∧ t.p.n = s.p.n ∧ t.c.n = s.c.n) : headE t (freedD d s.p.n a) a = 3 :=
  head_gone (freed_may0 (t := t) h.ws hE hl) (by rw [hl.2.1]; exact (freed_is h.ws hE).gone)
end Go.Proofs.YtcbnefjfoeanoaaGreatDoor.Rp
end
section
namespace Go.Proofs.YtcbnefjfoeanoaaGreatDoor
open Go.RowKit
set_option maxRecDepth 100000

theorem step_glue {W : World} {ops : Array Oper} {o : Oper} {a : Act} {K : Act → World → Prop} {Q : Exit → Act → World → Prop} {E : Prop} (hgd : o.guard = none) (s x : Operand)
    (ho : o.op = .call { callee := .builtin .append, args := #[s, x], argTypes := #[33, 33] }) {B m c : Nat} {A : Option Addr} {u : Nat → Ls.Sl} {f : Nat → List Int} {U : Nat → Nat → Ls.Sl} {F : Nat → Nat → List Int}
    (hs : a.eval s = .slice (some ⟨W.heap.size, 0, none⟩) 1 1) (hx : a.eval x = .slice A m c) (h1 : Ls.L3 W B u f) (hB : B ≤ W.heap.size) (hr : Ls.LRow W B A m U F) (hm : m ≤ 1000)
    (hK : ∀ A' cap w', Ls.LRow w' w'.heap.size A' (1 + m) (ahead u U) (ahead f F) → Below W.heap.size W w' → K (a.put o.dst (.slice A' (1 + m) cap)) w') : if Region.wanted o (yielded ops a.tmps) = true then Oper.wp Tryz.prog o a (W.alloc (.cells #[.slice (u 0).a (u 0).n (u 0).c, .slice (u 1).a (u 1).n (u 1).c, .slice (u 2).a (u 2).n (u 2).c] 25)) K Q else E := by
  have hw : Region.wanted o (yielded ops a.tmps) = true := by simp [Region.wanted, hgd]
  rw [if_pos hw]
  obtain ⟨A', cap, w', hrun, h2, h3⟩ := run_glue W B m c A u f U F o.type h1 hB hr hm
  unfold Oper.wp execOp
  simp only [ho, resolve, invoke, builtin, Sem.run_bind, Sem.run_pure, Result.andThen_ok, List.map_toArray, List.map_cons, List.map_nil, hs, hx, hrun]
  exact hK A' cap w' h2 h3
namespace Rp
structure Bq (w W : World) (A : Option Addr) (n : Nat) (U : Nat → Nat → Ls.Sl) (F : Nat → Nat → List Int) (s : Hs) (d : Hd_) (b1 : Nat) (t1 : Hs) (d1 : Hd_) (A2 : Option Addr) (M : Nat) (UU : Nat → Nat → Ls.Sl) (FF : Nat → Nat → List Int) : Prop where
  lx : Lx w W A n U F [(b1, t1, d1), (w.heap.size, s, d)]
  la : Ls.LRow W W.heap.size A2 M UU FF
section
variable {w W W' : World} {A A2 : Option Addr} {n b1 M : Nat} {U UU : Nat → Nat → Ls.Sl} {F FF : Nat → Nat → List Int} {s t1 : Hs} {d d1 : Hd_}
theorem Bq.next (h : Bq w W A n U F s d b1 t1 d1 A2 M UU FF) (hb : Below W.heap.size W W') : Bq w W' A n U F s d b1 t1 d1 A2 M UU FF := ⟨h.lx.next hb, lrow_more (h.la.below hb) hb.size⟩
theorem bq_keep (h : Bq w W A n U F s d b1 t1 d1 A2 M UU FF ∧ True) (hb : Below W.heap.size W W') : (Bq w W' A n U F s d b1 t1 d1 A2 M UU FF ∧ True) ∧ (b1 < W'.heap.size ∧ W'.cell? ⟨b1, 0, none⟩ = some (.slice t1.w.a t1.w.n t1.w.c) ∧ W'.cell? ⟨b1, 1, none⟩ = some (.slice t1.p.a t1.p.n t1.p.c) ∧ W'.cell? ⟨b1, 2, none⟩ = some (.slice (t1.u 0).a (t1.u 0).n (t1.u 0).c) ∧ W'.cell? ⟨b1, 3, none⟩ = some (.slice (t1.u 1).a (t1.u 1).n (t1.u 1).c) ∧ W'.cell? ⟨b1, 4, none⟩ = some (.slice (t1.u 2).a (t1.u 2).n (t1.u 2).c) ∧ W'.cell? ⟨b1, 5, none⟩ = some (.slice t1.c.a t1.c.n t1.c.c)) ∧ w.heap.size < W'.heap.size ∧ W'.cell? ⟨w.heap.size, 0, none⟩ = some (.slice s.w.a s.w.n s.w.c) ∧ W'.cell? ⟨w.heap.size, 1, none⟩ = some (.slice s.p.a s.p.n s.p.c) ∧ W'.cell? ⟨w.heap.size, 2, none⟩ = some (.slice (s.u 0).a (s.u 0).n (s.u 0).c) ∧ W'.cell? ⟨w.heap.size, 3, none⟩ = some (.slice (s.u 1).a (s.u 1).n (s.u 1).c) ∧ W'.cell? ⟨w.heap.size, 4, none⟩ = some (.slice (s.u 2).a (s.u 2).n (s.u 2).c) ∧ W'.cell? ⟨w.heap.size, 5, none⟩ = some (.slice s.c.a s.c.n s.c.c) :=
  ⟨⟨h.1.next hb, trivial⟩, six_of ((h.1.next hb).lx.at b1 t1 d1 (by simp)), six_of ((h.1.next hb).lx.at w.heap.size s d (by simp))⟩
end
end Rp
end Go.Proofs.YtcbnefjfoeanoaaGreatDoor
end
