/-
  Merged texts: RpFew, RpKept, RpLaw, RpLawC, RpLawD, HpApp, HpOwn7, AlOn, AlSto.
-/
import Derived.Test.YtcbnefjfoeanoaaGreatDoorHpZK
import Derived.Test.YtcbnefjfoeanoaaGreatDoorZRpCopied
import Derived.Deep.RegionHeld3
import Derived.BigQuiet
import Derived.Test.YtcbnefjfoeanoaaGreatDoorZRpAwake
import Derived.Test.YtcbnefjfoeanoaaGreatDoorHpZJ
import Derived.Test.YtcbnefjfoeanoaaGreatDoorHpZL
import Derived.Test.YtcbnefjfoeanoaaGreatDoorHpZA
import Derived.Test.YtcbnefjfoeanoaaGreatDoorHpZM
import Derived.Test.YtcbnefjfoeanoaaGreatDoorHpZF
section
namespace Go.Proofs.YtcbnefjfoeanoaaGreatDoor.Rp
open Go.Proofs.YtcbnefjfoeanoaaGreatDoor
open Go.RowKit
set_option maxRecDepth 100000

/-- All caches are light. -/
def lights (U : Nat → Nat → Ls.Sl) (m : Nat) : Bool := (List.range m).all fun i => lightB (U i)
def fewL (s : Hs) (U : Nat → Nat → Ls.Sl) (m : Nat) : Bool := (fewH s && lights U m) && decide (m ≤ 4)
theorem lights_succ (U : Nat → Nat → Ls.Sl) (m : Nat) : lights U (m + 1) = (lights U m && lightB (U m)) := by simp [lights, List.range_succ]
theorem few9_any (s : Hs) (A : Option Addr) (n c : Nat) (U : Nat → Nat → Ls.Sl) (F : Nat → Nat → List Int) (w : World) (hn : n ≤ 9223372036854775807) (hl : Ls.LRow w w.heap.size A n U F) :
    Calls Tryz.prog 21 #[(.agg #[.slice s.w.a s.w.n s.w.c, .slice s.p.a s.p.n s.p.c, .slice (s.u 0).a (s.u 0).n (s.u 0).c, .slice (s.u 1).a (s.u 1).n (s.u 1).c, .slice (s.u 2).a (s.u 2).n (s.u 2).c, .slice s.c.a s.c.n s.c.c]), .slice A n c] w fun e w' => e = .returned (.bool (fewL s U n)) ∧ Below w.heap.size w w' := by
  have HL := Lib.hid hl
  clear hl
  go_enter Tryz.func21, Tryz.ntmps21
  go_wp2_with fail
  have b0 := (Below.refl w.heap.size w).alloc (Nat.le_refl _) (.cells #[.slice s.w.a s.w.n s.w.c, .slice s.p.a s.p.n s.p.c, .slice (s.u 0).a (s.u 0).n (s.u 0).c, .slice (s.u 1).a (s.u 1).n (s.u 1).c, .slice (s.u 2).a (s.u 2).n (s.u 2).c, .slice s.c.a s.c.n s.c.c] 28)
  refine (rfew_any s _).mono ?_
  rintro e w1 ⟨rfl, hb1⟩
  have B1 := Lib.hid (b0.trans (hb1.mono b0.size))
  clear b0 hb1
  go_wp2
  go_loopw [5, 6] (fun q i wr => ∃ k : Nat, k ≤ n ∧ q = .bool (fewH s && lights U k) ∧ i = .int .i64 k ∧ Hid (Below w.heap.size w wr)) (fun _ i _ => n - (intOf i).toNat)
  case atStart => exact ⟨0, Nat.zero_le _, by simp [lights], rfl, B1⟩
  case round =>
    obtain ⟨k, hk, rfl, rfl, HB⟩ := hrel
    clear B1
    by_cases hlt : k < n
    · have dq : decide ((k : Int) < n) = true := by simp; omega
      have ik0 : (0 : Int) ≤ k := by omega
      have ik1 : (k : Int) < n := by omega
      have hnx : (fewH s && lights U (k + 1)) = ((fewH s && lights U k) && lightB (U k)) := by rw [lights_succ, Bool.and_assoc]
      have HNX := Lib.hid hnx
      obtain ⟨q, hq⟩ : ∃ q, q = (fewH s && lights U k) := ⟨_, rfl⟩
      rw [← hq] at HNX ⊢
      clear hnx hq
      cases q
      · go_wp2
        go_roundw
        case rel => exact ⟨k + 1, by omega, by rw [HNX.out]; rfl, by go_num, HB⟩
        case measure => simp [intOf]; omega
      · obtain ⟨b, off, rfl, hbl, hc⟩ := HL.out (by omega)
        have h0 := (hc k hlt).1 0 (by decide)
        have h1 := (hc k hlt).1 1 (by decide)
        have h2 := (hc k hlt).1 2 (by decide)
        have c0 := (HB.out.cell (p := ⟨b, off + k * 3 + 0, none⟩) hbl).trans h0
        have c1 := (HB.out.cell (p := ⟨b, off + k * 3 + 1, none⟩) hbl).trans h1
        have c2 := (HB.out.cell (p := ⟨b, off + k * 3 + 2, none⟩) hbl).trans h2
        have cl : b < wr.heap.size := by have := HB.out.size; omega
        rw [Nat.add_zero] at c0
        clear h0 h1 h2 hc
        go_wp2_with fail
        refine (rlight_any (U k) wr).mono ?_
        rintro e9 w5 ⟨rfl, hb5⟩
        have B5 := Lib.hid (HB.out.trans (hb5.mono HB.out.size))
        clear hb5 c0 c1 c2 cl
        go_wp2
        go_roundw
        case rel => exact ⟨k + 1, by omega, by rw [HNX.out]; rfl, by go_num, B5⟩
        case measure => simp [intOf]; omega
    · have dq : decide ((k : Int) < n) = false := by simp; omega
      obtain rfl : k = n := by omega
      have d4 : decide ((k : Int) ≤ 4) = decide (k ≤ 4) := by rw [decide_eq_decide]; omega
      have HE : Hid (fewL s U k = ((fewH s && lights U k) && decide (k ≤ 4))) := Lib.hid rfl
      obtain ⟨q, hq⟩ : ∃ q, q = (fewH s && lights U k) := ⟨_, rfl⟩
      rw [← hq] at HE ⊢
      clear hq hlt
      by_cases h4 : k ≤ 4
      · have d5 : decide ((k : Int) ≤ 4) = true := by simp; omega
        rw [decide_eq_true h4] at HE
        clear d4
        cases q
        · go_wp2
          go_ret
          exact ⟨by rw [HE.out]; rfl, HB.out⟩
        · go_wp2
          go_ret
          exact ⟨by rw [HE.out]; rfl, HB.out⟩
      · have d5 : decide ((k : Int) ≤ 4) = false := by simp; omega
        rw [decide_eq_false h4] at HE
        clear d4
        cases q
        · go_wp2
          go_ret
          exact ⟨by rw [HE.out]; rfl, HB.out⟩
        · go_wp2
          go_ret
          exact ⟨by rw [HE.out]; rfl, HB.out⟩
end Go.Proofs.YtcbnefjfoeanoaaGreatDoor.Rp
end
section
namespace Go.Proofs.YtcbnefjfoeanoaaGreatDoor.Rp
open Go.Proofs.YtcbnefjfoeanoaaGreatDoor
open Go.RowKit
set_option maxRecDepth 100000

structure Kt (w W : World) (s t : Hs) (d d' : Hd_) (A : Option Addr) (n : Nat) (us : List Int) : Prop where
  bel : Below w.heap.size w W
  b1 : HBox W w.heap.size s
  b2 : HBox W (w.heap.size + 1) t
  hp : Hp W W.heap.size s d
  hq : Hp W W.heap.size t d'
  row : Row W W.heap.size A n us
section
variable {w W W' : World} {s t : Hs} {d d' : Hd_} {A : Option Addr} {n : Nat} {us : List Int}
theorem Kt.next (h : Kt w W s t d d' A n us) (hb : Below W.heap.size W W') : Kt w W' s t d d' A n us := ⟨h.bel.trans (hb.mono h.bel.size), h.b1.next hb, h.b2.next hb, h.hp.next hb, h.hq.next hb, row_next h.row hb⟩
theorem kt_start {u : World} (hp : Hp w w.heap.size s d) (hq : Hp w w.heap.size t d') (h : u = (w.alloc (.cells #[.slice s.w.a s.w.n s.w.c, .slice s.p.a s.p.n s.p.c, .slice (s.u 0).a (s.u 0).n (s.u 0).c, .slice (s.u 1).a (s.u 1).n (s.u 1).c, .slice (s.u 2).a (s.u 2).n (s.u 2).c, .slice s.c.a s.c.n s.c.c] 28)).alloc (.cells #[.slice t.w.a t.w.n t.w.c, .slice t.p.a t.p.n t.p.c, .slice (t.u 0).a (t.u 0).n (t.u 0).c, .slice (t.u 1).a (t.u 1).n (t.u 1).c, .slice (t.u 2).a (t.u 2).n (t.u 2).c, .slice t.c.a t.c.n t.c.c] 28)) : Kt w u s t d d' none 0 [] := by
  obtain ⟨W1, h1⟩ : ∃ W1, W1 = w.alloc (.cells #[.slice s.w.a s.w.n s.w.c, .slice s.p.a s.p.n s.p.c, .slice (s.u 0).a (s.u 0).n (s.u 0).c, .slice (s.u 1).a (s.u 1).n (s.u 1).c, .slice (s.u 2).a (s.u 2).n (s.u 2).c, .slice s.c.a s.c.n s.c.c] 28) := ⟨_, rfl⟩
  rw [← h1] at h
  have z1 : W1.heap.size = w.heap.size + 1 := by rw [h1]; simp
  have b1 : Below w.heap.size w W1 := by rw [h1]; exact (Below.refl _ _).alloc (Nat.le_refl _) _
  have b2 : Below W1.heap.size W1 u := by rw [h]; exact (Below.refl _ _).alloc (Nat.le_refl _) _
  have x1 : HBox W1 w.heap.size s := by rw [h1]; exact HBox.new w s _
  have x2 : HBox u (w.heap.size + 1) t := by rw [h, ← z1]; exact HBox.new W1 t _
  exact ⟨b1.trans (b2.mono (by omega)), x1.next b2, x2, (hp.next b1).next b2, (hq.next b1).next b2, Row.none_ _ _⟩
theorem kt_keep1 {bb off q : Nat} {y : Int} (h : (Kt w W s t d d' (some ⟨bb, off, none⟩) n us ∧ True) ∧ bb < W.heap.size ∧ W.cell? ⟨bb, off + q, none⟩ = some (.int .i64 y)) (hb : Below W.heap.size W W') :
    ((Kt w W' s t d d' (some ⟨bb, off, none⟩) n us ∧ True) ∧ bb < W'.heap.size ∧ W'.cell? ⟨bb, off + q, none⟩ = some (.int .i64 y)) ∧ bb < W'.heap.size ∧ W'.cell? ⟨bb, off + q, none⟩ = some (.int .i64 y) ∧ w.heap.size < W'.heap.size ∧ W'.cell? ⟨w.heap.size, 1, none⟩ = some (.slice s.p.a s.p.n s.p.c) := by
  have k := h.1.1.next hb
  have c := (hb.cell (p := ⟨bb, off + q, none⟩) h.2.1).trans h.2.2
  have l := Nat.lt_of_lt_of_le h.2.1 hb.size
  exact ⟨⟨⟨k, trivial⟩, l, c⟩, l, c, k.b1.lt, k.b1.c1⟩
theorem kt_keep2 {bb off q : Nat} {y : Int} (h : (Kt w W s t d d' (some ⟨bb, off, none⟩) n us ∧ True) ∧ bb < W.heap.size ∧ W.cell? ⟨bb, off + q, none⟩ = some (.int .i64 y)) (hb : Below W.heap.size W W') :
    ((Kt w W' s t d d' (some ⟨bb, off, none⟩) n us ∧ True) ∧ bb < W'.heap.size ∧ W'.cell? ⟨bb, off + q, none⟩ = some (.int .i64 y)) ∧ bb < W'.heap.size ∧ W'.cell? ⟨bb, off + q, none⟩ = some (.int .i64 y) ∧ w.heap.size + 1 < W'.heap.size ∧ W'.cell? ⟨w.heap.size + 1, 1, none⟩ = some (.slice t.p.a t.p.n t.p.c) := by
  have k := h.1.1.next hb
  have c := (hb.cell (p := ⟨bb, off + q, none⟩) h.2.1).trans h.2.2
  have l := Nat.lt_of_lt_of_le h.2.1 hb.size
  exact ⟨⟨⟨k, trivial⟩, l, c⟩, l, c, k.b2.lt, k.b2.c1⟩
end
theorem used_len (s : Hs) (d : Hd_) : (usedL s d).length ≤ 512 := by
  unfold usedL usedF
  split
  · exact Nat.le_trans (List.length_filter_le _ _) (allS_len _ _)
  · exact Nat.zero_le _
set_option maxHeartbeats 4000000 in
theorem kept_yes (s t : Hs) (d d' : Hd_) (a : Int) (w : World) (hp : Hp w w.heap.size s d) (hq : Hp w w.heap.size t d') (hz : Cl.Sz w) (hf : Fine s d) (h1 : t.w.n = s.w.n) (h2 : t.p.n = s.p.n) (hwp : s.w.n = 16 * s.p.n) (h64 : s.p.n ≤ 64)
    (hus : ∀ y ∈ usedL s d, ¬ Cl.bg d.f s.p.n y = 0 ∧ (¬ y = a → Same4 s.p.n d d' y)) : Calls Tryz.prog 27 #[(.agg #[.slice s.w.a s.w.n s.w.c, .slice s.p.a s.p.n s.p.c, .slice (s.u 0).a (s.u 0).n (s.u 0).c, .slice (s.u 1).a (s.u 1).n (s.u 1).c, .slice (s.u 2).a (s.u 2).n (s.u 2).c, .slice s.c.a s.c.n s.c.c]), (.agg #[.slice t.w.a t.w.n t.w.c, .slice t.p.a t.p.n t.p.c, .slice (t.u 0).a (t.u 0).n (t.u 0).c, .slice (t.u 1).a (t.u 1).n (t.u 1).c, .slice (t.u 2).a (t.u 2).n (t.u 2).c, .slice t.c.a t.c.n t.c.c]), .int .i64 a] w fun e w' => e = .returned (.bool true) ∧ Below w.heap.size w w' := by
  have hz0 := hz.pos
  have HZ := Lib.hid hz
  have HFI := Lib.hid hf
  have HP := Lib.hid hp
  have HQ := Lib.hid hq
  have hul := used_len s d
  obtain ⟨us, hue⟩ : ∃ us, us = usedL s d := ⟨_, rfl⟩
  rw [← hue] at hul hus
  have HUE := Lib.hid hue
  have HUS := Lib.hid hus
  have HUL := Lib.hid hul
  have HWP := Lib.hid hwp
  have H64 := Lib.hid h64
  have HB1 : Hid (∀ (y : Int) W A n, Kt w W s t d d' A n us → Calls Tryz.prog 18 #[.slice s.p.a s.p.n s.p.c, .int .i64 y] W fun e w' => e = .returned (.int .i64 (Cl.bg d.f s.p.n y)) ∧ Below W.heap.size W w') := Lib.hid (fun y W A n h => Cl.rbegins_any W.heap.size s.p.a s.p.n s.p.c d.f y W (by omega) h.hp.pages (Nat.le_refl _))
  have HB2 : Hid (∀ (y : Int) W A n, Kt w W s t d d' A n us → Calls Tryz.prog 18 #[.slice t.p.a t.p.n t.p.c, .int .i64 y] W fun e w' => e = .returned (.int .i64 (Cl.bg d'.f s.p.n y)) ∧ Below W.heap.size W w') := Lib.hid (fun y W A n h => by
    have := Cl.rbegins_any W.heap.size t.p.a t.p.n t.p.c d'.f y W (by omega) h.hq.pages (Nat.le_refl _)
    exact this.mono fun _ _ hh => by rw [h2] at hh; exact hh)
  have HW1 := Lib.hid h1
  have dW : ((t.w.n : Int) != (s.w.n : Int)) = false := by rw [h1]; simp
  clear hp hq hz hf hue hus hul hwp h64 h2 h1
  go_enter Tryz.func27, Tryz.ntmps27
  go_wp2_with fail
  obtain ⟨W1, hW1⟩ : ∃ W1, W1 = (w.alloc (.cells #[.slice s.w.a s.w.n s.w.c, .slice s.p.a s.p.n s.p.c, .slice (s.u 0).a (s.u 0).n (s.u 0).c, .slice (s.u 1).a (s.u 1).n (s.u 1).c, .slice (s.u 2).a (s.u 2).n (s.u 2).c, .slice s.c.a s.c.n s.c.c] 28)).alloc (.cells #[.slice t.w.a t.w.n t.w.c, .slice t.p.a t.p.n t.p.c, .slice (t.u 0).a (t.u 0).n (t.u 0).c, .slice (t.u 1).a (t.u 1).n (t.u 1).c, .slice (t.u 2).a (t.u 2).n (t.u 2).c, .slice t.c.a t.c.n t.c.c] 28) := ⟨_, rfl⟩
  have K1 := Lib.hid (kt_start HP.out HQ.out hW1)
  rw [← hW1]
  clear hW1
  refine (pused_any s d W1 K1.out.hp (HZ.out.over K1.out.bel hz0) HFI.out).mono ?_
  rw [← HUE.out]
  rintro e w2 ⟨v2, rfl, ho2, hb2⟩
  obtain ⟨a2, c2, e2, hk2, _, _⟩ := Ls.owns_row ho2
  simp only [Value.slice.injEq, true_and] at e2
  obtain ⟨rfl, rfl⟩ := e2
  obtain ⟨va, n, vc⟩ := v2
  dsimp only at hk2 ⊢
  have k := K1.out.next hb2
  have K2 := Lib.hid (show Kt w w2 s t d d' va n us from ⟨k.bel, k.b1, k.b2, k.hp, k.hq, hk2⟩)
  have HN : Hid (us.length = n) := Lib.hid hk2.1
  have hn : n ≤ 512 := by have g1 := HN.out; have g2 := HUL.out; omega
  clear hb2 ho2 hk2 K1 k
  have q0 := K2.out.b1.c0
  have ql := K2.out.b1.lt
  have p0 := K2.out.b2.c0
  have pl := K2.out.b2.lt
  go_wp2
  clear q0 ql p0 pl dW
  go_loopw [8, 9, 10] (fun i _ _ wr => ∃ k : Nat, k ≤ n ∧ i = .int .i64 k ∧ Hid (Kt w wr s t d d' va n us)) (fun i _ _ _ => n - (intOf i).toNat)
  case atStart => exact ⟨0, Nat.zero_le _, rfl, K2⟩
  case round =>
    obtain ⟨k, hk, rfl, HK⟩ := hrel
    clear K2
    by_cases hlt : k < n
    · have dq : decide ((k : Int) < n) = true := by simp; omega
      have dq2 : decide ((n : Int) ≤ k) = false := by simp; omega
      have dq3 : decide (n ≤ k) = false := by simp; omega
      have iq0 : (0 : Int) ≤ k := by omega
      obtain ⟨bb, off, rfl, hbl, hcell⟩ := HK.out.row.2 (by omega)
      obtain ⟨y, hy⟩ : ∃ y, y = us.getD k 0 := ⟨_, rfl⟩
      have hq1 := hcell k hlt
      rw [← hy] at hq1
      have hyu := HUS.out y (by rw [hy]; exact getD_mem (by have := HN.out; omega))
      have hce := cell_end hyu.1
      have hw16 : 16 * s.p.n ≤ s.w.n := Nat.le_of_eq HWP.out.symm
      have hw17 : s.w.n ≤ 16 * s.p.n := Nat.le_of_eq HWP.out
      have h64 := H64.out
      obtain ⟨B, hB⟩ : ∃ B, B = Cl.bg d.f s.p.n y := ⟨_, rfl⟩
      have C1 := Lib.hid (fun W (h : Kt w W s t d d' (some ⟨bb, off, none⟩) n us) => HB1.out y W _ _ h)
      have C2 := Lib.hid (fun W (h : Kt w W s t d d' (some ⟨bb, off, none⟩) n us) => HB2.out y W _ _ h)
      have HSM := Lib.hid hyu.2
      rw [← hB] at hce C1
      have HS2 : Hid ((Kt w wr s t d d' (some ⟨bb, off, none⟩) n us ∧ True) ∧ bb < wr.heap.size ∧ wr.cell? ⟨bb, off + k, none⟩ = some (.int .i64 y)) := Lib.hid ⟨⟨HK.out, trivial⟩, hbl, hq1⟩
      have HBE := Lib.hid hB
      have HY := Lib.hid hy
      clear hbl hq1 hcell HK hyu hy hB
      go_wp2_with fail
      go_region_held3 (fun W => ((Kt w W s t d d' (some ⟨bb, off, none⟩) n us ∧ True) ∧ bb < W.heap.size ∧ W.cell? ⟨bb, off + k, none⟩ = some (.int .i64 y)) ∧ bb < W.heap.size ∧ W.cell? ⟨bb, off + k, none⟩ = some (.int .i64 y) ∧ w.heap.size < W.heap.size ∧ W.cell? ⟨w.heap.size, 1, none⟩ = some (.slice s.p.a s.p.n s.p.c)) (first
        | exact kt_keep1 HS2.out (below_drawn' (Below.refl _ _) 1)
        | exact kt_keep1 (‹((Kt w _ s t d d' _ _ _ ∧ True) ∧ _) ∧ _›).1 ‹Below _ _ _›) (first
        | ((go_at_call 18; (with_reducible refine (C1.out _ (‹((Kt w _ s t d d' _ _ _ ∧ True) ∧ _) ∧ _›).1.1.1).mono ?_); rintro e' w8 ⟨rfl, hb8⟩)))
      have HS3 := Lib.hid (‹((Kt w w8 s t d d' _ _ _ ∧ True) ∧ _) ∧ _›).1
      clear HS2 C1
      have c3 := HS3.out.2.2
      have l3 := HS3.out.2.1
      by_cases hya : y = a
      · have d6 : (y == a) = true := by simp [hya]
        clear hya
        go_wp2
        go_roundw
        case rel => exact ⟨k + 1, by omega, by go_num, Lib.hid HS3.out.1.1⟩
        case measure => simp [intOf]; omega
      · have d6 : (y == a) = false := by simp [hya]
        have HSA := Lib.hid (HSM.out hya)
        rw [HSA.out.bg, ← HBE.out] at C2
        have dB : (B != B) = false := by simp
        clear hya HSM
        go_wp2_with fail
        clear c3 l3
        go_region_held3 (fun W => ((Kt w W s t d d' (some ⟨bb, off, none⟩) n us ∧ True) ∧ bb < W.heap.size ∧ W.cell? ⟨bb, off + k, none⟩ = some (.int .i64 y)) ∧ bb < W.heap.size ∧ W.cell? ⟨bb, off + k, none⟩ = some (.int .i64 y) ∧ w.heap.size + 1 < W.heap.size ∧ W.cell? ⟨w.heap.size + 1, 1, none⟩ = some (.slice t.p.a t.p.n t.p.c)) (first
          | exact kt_keep2 HS3.out (below_drawn' (Below.refl _ _) 1)
          | exact kt_keep2 (‹((Kt w _ s t d d' _ _ _ ∧ True) ∧ _) ∧ _›).1 ‹Below _ _ _›) (first
          | ((go_at_call 18; (with_reducible refine (C2.out _ (‹((Kt w _ s t d d' _ _ _ ∧ True) ∧ _) ∧ _›).1.1.1).mono ?_); rintro e' w9 ⟨rfl, hb9⟩)))
        have HS4 := Lib.hid (‹((Kt w w9 s t d d' _ _ _ ∧ True) ∧ _) ∧ _›).1
        clear HS3 C2
        obtain ⟨b, rfl⟩ : ∃ b : Nat, B = b := ⟨B.toNat, by omega⟩
        have hb9 : b ≤ 2000 := by omega
        go_wp2
        go_loopw [10] (fun j wi => ∃ q : Nat, q ≤ b ∧ j = .int .i64 q ∧ Hid (Kt w wi s t d d' (some ⟨bb, off, none⟩) n us)) (fun j _ => b - (intOf j).toNat)
        case atStart => exact ⟨0, Nat.zero_le _, rfl, Lib.hid HS4.out.1.1⟩
        case round =>
          obtain ⟨q, hq, rfl, HI⟩ := hrel
          clear HS4
          by_cases hlq : q < b
          · have dj : decide ((q : Int) < b) = true := by simp; omega
            obtain ⟨i, hi⟩ : ∃ i : Nat, y + (q : Int) - 16 = i := ⟨(y + q - 16).toNat, by omega⟩
            have hin : i < s.w.n := by omega
            obtain ⟨b5, o5, e5, hl5, hc5⟩ := HI.out.row.2 (by omega)
            cases e5
            have g1 := hc5 k hlt
            rw [← HY.out] at g1
            obtain ⟨b6, o6, e6, hl6, hc6⟩ := HI.out.hp.words.2 (by omega)
            obtain ⟨b7, o7, e7, hl7, hc7⟩ := HI.out.hq.words.2 (by rw [HW1.out]; omega)
            have g6 := hc6 i hin
            have g7 := hc7 i (by rw [HW1.out]; exact hin)
            have hsame := HSA.out.wd (y + q) (by omega) (by rw [← HBE.out]; omega)
            unfold wd at hsame
            rw [show (y + (q : Int) - 16).toNat = i by omega] at hsame
            rw [hsame] at g7
            obtain ⟨z, hzz⟩ : ∃ z, z = d.ws.getD i 0 := ⟨_, rfl⟩
            rw [← hzz] at g6 g7
            have q0 := HI.out.b1.c0
            have ql := HI.out.b1.lt
            have p0 := HI.out.b2.c0
            have pl := HI.out.b2.lt
            rw [e6] at q0
            rw [e7, HW1.out] at p0
            have dz : (z != z) = false := by simp
            have i0 : (0 : Int) ≤ i := by omega
            have i1 : (i : Int) < s.w.n := by omega
            have w1 : IntKind.i64.wrap (y + (q : Int)) = y + q := by simp [IntKind.wrap, IntKind.signed, IntKind.bits]; omega
            have w2 : IntKind.i64.wrap (i : Int) = i := by simp [IntKind.wrap, IntKind.signed, IntKind.bits]; omega
            have k1 : (k : Int) < n := by omega
            clear hc5 hc6 hc7 e6 e7 hsame hzz hce hw16 hw17 h64 hin
            go_wp2_with fail
            go_quiet (fail)
            have HI2 := Lib.hid (HI.out.next (below_drawn' (Below.refl _ _) nq))
            go_wp2
            go_roundw
            case rel => exact ⟨q + 1, by omega, by go_num, HI2⟩
            case measure => simp [intOf]; omega
          · obtain rfl : q = b := by omega
            have dj : decide ((q : Int) < q) = false := by simp
            go_wp2
            go_roundw
            case rel => exact ⟨k + 1, by omega, by go_num, HI⟩
            case measure => simp [intOf]; omega
    · obtain rfl : k = n := by omega
      have dq : decide ((k : Int) < k) = false := by simp
      clear hlt
      go_wp2
      go_ret
      exact ⟨rfl, HK.out.bel⟩
end Go.Proofs.YtcbnefjfoeanoaaGreatDoor.Rp
end
section
namespace Go.Proofs.YtcbnefjfoeanoaaGreatDoor.Rp
open Go.Proofs.YtcbnefjfoeanoaaGreatDoor
open Go.RowKit
set_option maxRecDepth 100000

theorem bl_alloc {w W : World} (h : Below w.heap.size w W) (v : Obj) : Below w.heap.size w (W.alloc v) := h.alloc h.size v
theorem bl_drew {w W : World} (h : Below w.heap.size w W) : Below w.heap.size w W.drew := below_drawn' h 1
theorem bl_call {w W W' : World} (h : Below w.heap.size w W) (hb : Below W.heap.size W W') : Below w.heap.size w W' := h.trans (hb.mono h.size)
theorem bl_set {w W : World} (h : Below w.heap.size w W) {b o : Nat} (hb : w.heap.size ≤ b) (v : Value) : Below w.heap.size w (W.setCell ⟨b, o, none⟩ v) := h.setCell (p := ⟨b, o, none⟩) hb _
structure Lx (w W : World) (A : Option Addr) (n : Nat) (U : Nat → Nat → Ls.Sl) (F : Nat → Nat → List Int) (hs : List (Nat × Hs × Hd_)) : Prop where
  bel : Below w.heap.size w W
  lr : Ls.LRow W W.heap.size A n U F
  h : ∀ x ∈ hs, HBox W x.1 x.2.1 ∧ Hp W W.heap.size x.2.1 x.2.2
section
variable {w w3 W W' : World} {s t t1 t2 : Hs} {d d1 d2 : Hd_} {A : Option Addr} {n b b1 b2 : Nat} {U : Nat → Nat → Ls.Sl} {F : Nat → Nat → List Int} {hs : List (Nat × Hs × Hd_)} {ty : TypeId}
theorem Lx.next (h : Lx w W A n U F hs) (hb : Below W.heap.size W W') : Lx w W' A n U F hs := ⟨h.bel.trans (hb.mono h.bel.size), lrow_more (h.lr.below hb) hb.size, fun x hx => ⟨(h.h x hx).1.next hb, (h.h x hx).2.next hb⟩⟩
theorem Lx.at (h : Lx w W A n U F hs) (b : Nat) (s : Hs) (d : Hd_) (hm : (b, s, d) ∈ hs) : HBox W b s := (h.h _ hm).1
theorem Lx.hp (h : Lx w W A n U F hs) (b : Nat) (s : Hs) (d : Hd_) (hm : (b, s, d) ∈ hs) : Hp W W.heap.size s d := (h.h _ hm).2
/-- A heap in new memory. -/
structure Nw (w3 W : World) (b : Nat) (t : Hs) (d : Hd_) : Prop where
  bel : Below w3.heap.size w3 W
  box : HBox W b t
  hp : Hp W W.heap.size t d
theorem Lx.add (h : Lx w w3 A n U F hs) (k : Nw w3 W b t d) : Lx w W A n U F ((b, t, d) :: hs) := by
  have h1 := h.next k.bel
  refine ⟨h1.bel, h1.lr, fun x hx => ?_⟩
  rcases List.mem_cons.1 hx with rfl | hx
  · exact ⟨k.box, k.hp⟩
  · exact h1.h x hx
theorem nw_new (bel : Below w3.heap.size w3 W) (hp : Hp W W.heap.size t d) : Nw w3 (W.alloc (.cells #[.slice t.w.a t.w.n t.w.c, .slice t.p.a t.p.n t.p.c, .slice (t.u 0).a (t.u 0).n (t.u 0).c, .slice (t.u 1).a (t.u 1).n (t.u 1).c, .slice (t.u 2).a (t.u 2).n (t.u 2).c, .slice t.c.a t.c.n t.c.c] ty)) W.heap.size t d :=
  have b2 : Below W.heap.size W (W.alloc (.cells #[.slice t.w.a t.w.n t.w.c, .slice t.p.a t.p.n t.p.c, .slice (t.u 0).a (t.u 0).n (t.u 0).c, .slice (t.u 1).a (t.u 1).n (t.u 1).c, .slice (t.u 2).a (t.u 2).n (t.u 2).c, .slice t.c.a t.c.n t.c.c] ty)) := (Below.refl _ _).alloc (Nat.le_refl _) _
  ⟨bl_call bel b2, HBox.new W t ty, hp.next b2⟩
theorem nw_put (bel : Below w3.heap.size w3 W) (hp : Hp W W.heap.size t d) (ho : Rm W w3.heap.size noHs) : Nw w3 ((((((W.setCell ⟨w3.heap.size, 0, none⟩ (.slice t.w.a t.w.n t.w.c)).setCell ⟨w3.heap.size, 1, none⟩ (.slice t.p.a t.p.n t.p.c)).setCell ⟨w3.heap.size, 2, none⟩ (.slice (t.u 0).a (t.u 0).n (t.u 0).c)).setCell ⟨w3.heap.size, 3, none⟩ (.slice (t.u 1).a (t.u 1).n (t.u 1).c)).setCell ⟨w3.heap.size, 4, none⟩ (.slice (t.u 2).a (t.u 2).n (t.u 2).c)).setCell ⟨w3.heap.size, 5, none⟩ (.slice t.c.a t.c.n t.c.c)) w3.heap.size t d :=
  ⟨below_put6 bel (Nat.le_refl _) _ _ _ _ _ _, (ho.put t).box.box, hp_turn ho.sl hp (fun _ hi => put6_other _ _ _ _ _ _ _ _ hi) (put6_size _ _ _ _ _ _ _ _).symm⟩
theorem lx_start (hp : Hp w w.heap.size s d) (hl : Ls.LRow w w.heap.size A n U F) (h : W = w.alloc (.cells #[.slice s.w.a s.w.n s.w.c, .slice s.p.a s.p.n s.p.c, .slice (s.u 0).a (s.u 0).n (s.u 0).c, .slice (s.u 1).a (s.u 1).n (s.u 1).c, .slice (s.u 2).a (s.u 2).n (s.u 2).c, .slice s.c.a s.c.n s.c.c] ty)) : Lx w W A n U F [(w.heap.size, s, d)] := by
  have b1 : Below w.heap.size w W := by rw [h]; exact (Below.refl _ _).alloc (Nat.le_refl _) _
  refine ⟨b1, lrow_more (hl.below b1) b1.size, fun x hx => ?_⟩
  obtain rfl := List.mem_singleton.1 hx
  exact ⟨by rw [h]; exact HBox.new w s _, hp.next b1⟩
/-- A box that was laid before a call, behind it. -/
theorem old_rm {w4 : World} (h : Below ((w3.alloc (.cells #[.slice none 0 0, .slice none 0 0, .slice none 0 0, .slice none 0 0, .slice none 0 0, .slice none 0 0] ty)).drew).heap.size ((w3.alloc (.cells #[.slice none 0 0, .slice none 0 0, .slice none 0 0, .slice none 0 0, .slice none 0 0, .slice none 0 0] ty)).drew) w4) : Rm w4 w3.heap.size noHs :=
  (Rm.new w3 noHs ty).next (bl_call (bl_drew (Below.refl _ _)) h)
theorem old_cells {w4 : World} (h : Rm w4 b noHs) : b < w4.heap.size ∧ (w4.cell? ⟨b, 0, none⟩ = some (.slice none 0 0) ∧ w4.cell? ⟨b, 1, none⟩ = some (.slice none 0 0) ∧ w4.cell? ⟨b, 2, none⟩ = some (.slice none 0 0) ∧ w4.cell? ⟨b, 3, none⟩ = some (.slice none 0 0) ∧ w4.cell? ⟨b, 4, none⟩ = some (.slice none 0 0) ∧ w4.cell? ⟨b, 5, none⟩ = some (.slice none 0 0)) ∧
    w4.frozen? ⟨b, 0, none⟩ = false ∧ w4.frozen? ⟨b, 1, none⟩ = false ∧ w4.frozen? ⟨b, 2, none⟩ = false ∧ w4.frozen? ⟨b, 3, none⟩ = false ∧ w4.frozen? ⟨b, 4, none⟩ = false ∧ w4.frozen? ⟨b, 5, none⟩ = false :=
  ⟨h.box.box.lt, ⟨h.box.box.c0, h.box.box.c1, h.box.box.c2, h.box.box.c3, h.box.box.c4, h.box.box.c5⟩, h.box.free 0, h.box.free 1, h.box.free 2, h.box.free 3, h.box.free 4, h.box.free 5⟩
theorem six_of (h : HBox W b s) : b < W.heap.size ∧ W.cell? ⟨b, 0, none⟩ = some (.slice s.w.a s.w.n s.w.c) ∧ W.cell? ⟨b, 1, none⟩ = some (.slice s.p.a s.p.n s.p.c) ∧ W.cell? ⟨b, 2, none⟩ = some (.slice (s.u 0).a (s.u 0).n (s.u 0).c) ∧ W.cell? ⟨b, 3, none⟩ = some (.slice (s.u 1).a (s.u 1).n (s.u 1).c) ∧ W.cell? ⟨b, 4, none⟩ = some (.slice (s.u 2).a (s.u 2).n (s.u 2).c) ∧ W.cell? ⟨b, 5, none⟩ = some (.slice s.c.a s.c.n s.c.c) := ⟨h.lt, h.c0, h.c1, h.c2, h.c3, h.c4, h.c5⟩
theorem lx_keep1 (m1 : (b1, t1, d1) ∈ hs) (h : Lx w W A n U F hs ∧ True) (hb : Below W.heap.size W W') : (Lx w W' A n U F hs ∧ True) ∧ b1 < W'.heap.size ∧ W'.cell? ⟨b1, 0, none⟩ = some (.slice t1.w.a t1.w.n t1.w.c) ∧ W'.cell? ⟨b1, 1, none⟩ = some (.slice t1.p.a t1.p.n t1.p.c) ∧ W'.cell? ⟨b1, 2, none⟩ = some (.slice (t1.u 0).a (t1.u 0).n (t1.u 0).c) ∧ W'.cell? ⟨b1, 3, none⟩ = some (.slice (t1.u 1).a (t1.u 1).n (t1.u 1).c) ∧ W'.cell? ⟨b1, 4, none⟩ = some (.slice (t1.u 2).a (t1.u 2).n (t1.u 2).c) ∧ W'.cell? ⟨b1, 5, none⟩ = some (.slice t1.c.a t1.c.n t1.c.c) :=
  ⟨⟨h.1.next hb, trivial⟩, six_of ((h.1.next hb).at b1 t1 d1 m1)⟩
theorem lx_keep2 (m1 : (b1, t1, d1) ∈ hs) (m2 : (b2, t2, d2) ∈ hs) (h : Lx w W A n U F hs ∧ True) (hb : Below W.heap.size W W') : (Lx w W' A n U F hs ∧ True) ∧ (b1 < W'.heap.size ∧ W'.cell? ⟨b1, 0, none⟩ = some (.slice t1.w.a t1.w.n t1.w.c) ∧ W'.cell? ⟨b1, 1, none⟩ = some (.slice t1.p.a t1.p.n t1.p.c) ∧ W'.cell? ⟨b1, 2, none⟩ = some (.slice (t1.u 0).a (t1.u 0).n (t1.u 0).c) ∧ W'.cell? ⟨b1, 3, none⟩ = some (.slice (t1.u 1).a (t1.u 1).n (t1.u 1).c) ∧ W'.cell? ⟨b1, 4, none⟩ = some (.slice (t1.u 2).a (t1.u 2).n (t1.u 2).c) ∧ W'.cell? ⟨b1, 5, none⟩ = some (.slice t1.c.a t1.c.n t1.c.c)) ∧ b2 < W'.heap.size ∧ W'.cell? ⟨b2, 0, none⟩ = some (.slice t2.w.a t2.w.n t2.w.c) ∧ W'.cell? ⟨b2, 1, none⟩ = some (.slice t2.p.a t2.p.n t2.p.c) ∧ W'.cell? ⟨b2, 2, none⟩ = some (.slice (t2.u 0).a (t2.u 0).n (t2.u 0).c) ∧ W'.cell? ⟨b2, 3, none⟩ = some (.slice (t2.u 1).a (t2.u 1).n (t2.u 1).c) ∧ W'.cell? ⟨b2, 4, none⟩ = some (.slice (t2.u 2).a (t2.u 2).n (t2.u 2).c) ∧ W'.cell? ⟨b2, 5, none⟩ = some (.slice t2.c.a t2.c.n t2.c.c) :=
  ⟨⟨h.1.next hb, trivial⟩, six_of ((h.1.next hb).at b1 t1 d1 m1), six_of ((h.1.next hb).at b2 t2 d2 m2)⟩
/-- What the region of a call of the first cache has. -/
theorem lx_keepF {bb off : Nat} (u : Nat → Ls.Sl) (m1 : (b1, t1, d1) ∈ hs) (L : Lx w w3 (some ⟨bb, off, none⟩) n U F hs) (hn : 0 < n) (hu : U 0 = u) (hb : Below w3.heap.size w3 W) :
    (Below w3.heap.size w3 W ∧ True) ∧ (b1 < W.heap.size ∧ W.cell? ⟨b1, 0, none⟩ = some (.slice t1.w.a t1.w.n t1.w.c) ∧ W.cell? ⟨b1, 1, none⟩ = some (.slice t1.p.a t1.p.n t1.p.c) ∧ W.cell? ⟨b1, 2, none⟩ = some (.slice (t1.u 0).a (t1.u 0).n (t1.u 0).c) ∧ W.cell? ⟨b1, 3, none⟩ = some (.slice (t1.u 1).a (t1.u 1).n (t1.u 1).c) ∧ W.cell? ⟨b1, 4, none⟩ = some (.slice (t1.u 2).a (t1.u 2).n (t1.u 2).c) ∧ W.cell? ⟨b1, 5, none⟩ = some (.slice t1.c.a t1.c.n t1.c.c)) ∧ bb < W.heap.size ∧ W.cell? ⟨bb, off, none⟩ = some (.slice (u 0).a (u 0).n (u 0).c) ∧ W.cell? ⟨bb, off + 1, none⟩ = some (.slice (u 1).a (u 1).n (u 1).c) ∧ W.cell? ⟨bb, off + 2, none⟩ = some (.slice (u 2).a (u 2).n (u 2).c) := by
  have M := L.next hb
  obtain ⟨b', off', e, hbl, hc⟩ := M.lr hn
  cases e
  have c0 := (hc 0 hn).1 0 (by decide)
  have c1 := (hc 0 hn).1 1 (by decide)
  have c2 := (hc 0 hn).1 2 (by decide)
  rw [hu] at c0 c1 c2
  simp only [Nat.zero_mul, Nat.add_zero] at c0 c1 c2
  exact ⟨⟨hb, trivial⟩, six_of (M.at b1 t1 d1 m1), hbl, c0, c1, c2⟩
end
/-- How great a heap and caches are. -/
structure Lite9 (s : Hs) (d : Hd_) (n : Nat) (F : Nat → Nat → List Int) (B : Nat) : Prop where
  w : s.w.n ≤ 130
  p : s.p.n ≤ 9
  c : s.c.n ≤ 20
  lF : ∀ j, j < 3 → (d.F j).length ≤ B
  lG : ∀ i, i < n → ∀ j, j < 3 → (F i j).length ≤ 70
  n4 : n ≤ 4
  hv : Fit64 d.ws
theorem lite9_few {w : World} {B : Nat} {s : Hs} {d : Hd_} {n : Nat} {A : Option Addr} {U : Nat → Nat → Ls.Sl} {F : Nat → Nat → List Int} (h : fewL s U n = true) (hp : Hp w B s d) (hl : Ls.LRow w B A n U F) (hv : Fit64 d.ws) : Lite9 s d n F 70 := by
  unfold fewL lights at h
  simp only [Bool.and_eq_true, decide_eq_true_eq] at h
  have hall := List.all_eq_true.1 h.1.2
  obtain ⟨h1, h2, h3, h4⟩ := few_parts h.1.1
  unfold lightB at h4
  simp only [decide_eq_true_eq] at h4
  refine ⟨h1, h2, h3, fun j hj => ?_, fun i hi j hj => ?_, h.2, hv⟩
  · have := hp.free.len j hj
    rcases (show j = 0 ∨ j = 1 ∨ j = 2 by omega) with rfl | rfl | rfl <;> omega
  · obtain ⟨b, off, _, _, hc⟩ := hl (by omega)
    have g := hall i (List.mem_range.2 hi)
    unfold lightB at g
    simp only [decide_eq_true_eq] at g
    have := (hc i hi).2.len j hj
    rcases (show j = 0 ∨ j = 1 ∨ j = 2 by omega) with rfl | rfl | rfl <;> omega
section
variable {s t : Hs} {d d' : Hd_} {n B C : Nat} {F : Nat → Nat → List Int}
theorem Lite9.fine (h : Lite9 s d n F B) (hB : B ≤ 1000) : Fine s d := by
  have f0 := h.lF 0 (by decide)
  have f1 := h.lF 1 (by decide)
  have f2 := h.lF 2 (by decide)
  have := h.w
  have := h.p
  have := h.c
  exact ⟨by omega, by omega, by omega, h.hv, by rw [upTo3]; omega⟩
theorem Lite9.all (h : Lite9 s d n F B) (hB : B ≤ 1000) : (Ls.allOf (ahead d.F F) (1 + n)).length ≤ 2000000 := by
  have f0 := h.lF 0 (by decide)
  have f1 := h.lF 1 (by decide)
  have f2 := h.lF 2 (by decide)
  have key : ∀ m, m ≤ 1 + n → (Ls.allOf (ahead d.F F) m).length ≤ 3000 * m := fun m => by
    induction m with
    | zero => intro _; simp [Ls.allOf]
    | succ m ih =>
      intro hm
      rw [Ls.allOf_succ, List.length_append, upTo3]
      have := ih (by omega)
      cases m with
      | zero => simp only [ahead]; omega
      | succ i => have a0 := h.lG i (by omega) 0 (by decide); have a1 := h.lG i (by omega) 1 (by decide); have a2 := h.lG i (by omega) 2 (by decide); simp only [ahead]; omega
  have := key (1 + n) (Nat.le_refl _)
  have := h.n4
  omega
theorem Lite9.fineT (h : Lite9 s d n F B) (hB : B ≤ 1000) (hs : ∀ j, j < 3 → (s.u j).n = (d.F j).length) (u : Nat → Ls.Sl) (G : Nat → List Int) (hG : ∀ j, j < 3 → (G j).length ≤ 1000) (hu : ∀ j, j < 3 → (u j).n = (G j).length) : FineT s d u G := by
  have f0 := h.lF 0 (by decide)
  have f1 := h.lF 1 (by decide)
  have f2 := h.lF 2 (by decide)
  have g0 := hG 0 (by decide)
  have g1 := hG 1 (by decide)
  have g2 := hG 2 (by decide)
  refine ⟨h.fine hB, fun j hj => by have := hs j hj; have := h.lF j hj; omega, fun j hj => by have := hu j hj; have := hG j hj; omega, ?_⟩
  rw [show Ls.allOf (ahead d.F (fun _ => G)) (1 + 1) = Ls.upTo d.F 3 ++ Ls.upTo G 3 by simp [Ls.allOf, List.range_succ, ahead], List.length_append, upTo3, upTo3]
  omega
theorem Lite9.less (h : Lite9 s d n F B) {m : Nat} {G : Nat → Nat → List Int} (hm : m ≤ n) (hG : ∀ i, i < m → ∃ k, k < n ∧ G i = F k) : Lite9 s d m G B :=
  ⟨h.w, h.p, h.c, h.lF, fun i hi j hj => by obtain ⟨k, hk, e⟩ := hG i hi; rw [e]; exact h.lG k hk j hj, by have := h.n4; omega, h.hv⟩
theorem wipe_or : ∀ (k o : Nat) (xs : List Int) (i : Nat), (Ar.wipe xs o k).getD i 0 = 0 ∨ (Ar.wipe xs o k).getD i 0 = xs.getD i 0
  | 0, _, _, _ => .inr rfl
  | k + 1, o, xs, i => by
    rcases wipe_or k (o + 1) (xs.set o 0) i with h | h
    · exact .inl h
    · rw [Ar.wipe, h, getD_set]
      split
      · exact .inl rfl
      · exact .inr rfl
theorem back_ws (d : Hd_) (p : Nat) : (backD d p).ws = d.ws := by
  unfold backD
  split <;> rfl
theorem back_len (d : Hd_) (p j : Nat) : ((backD d p).F j).length ≤ (d.F j).length := by
  unfold backD
  split
  · show (Ls.upd d.F _ _ j).length ≤ _
    unfold Ls.upd
    split
    · next e => rw [e]; exact List.length_filter_le _ _
    · exact Nat.le_refl _
  · exact Nat.le_refl _
theorem freed_lens (d : Hd_) (n : Nat) (a : Int) : (∀ j, ((freedD d n a).F j).length ≤ (d.F j).length + 1) ∧ ∀ i, (freedD d n a).ws.getD i 0 = 0 ∨ (freedD d n a).ws.getD i 0 = d.ws.getD i 0 := by
  unfold freedD
  split
  · refine ⟨fun j => Nat.le_trans (back_len _ _ j) ?_, fun i => ?_⟩
    · show (Ls.upd d.F _ _ j).length ≤ _
      unfold Ls.upd
      split
      · next e => rw [e, List.length_append]; exact Nat.le_refl _
      · omega
    · rw [back_ws]; exact wipe_or _ _ _ _
  · exact ⟨fun j => by show (d.F j).length ≤ _; omega, fun i => wipe_or _ _ _ _⟩
theorem Lite9.freed (h : Lite9 s d n F B) (a : Int) (hl : Same3 s t) : Lite9 t (freedD d s.p.n a) n F (B + 1) :=
  ⟨by rw [hl.1]; exact h.w, by rw [hl.2.1]; exact h.p, by rw [hl.2.2]; exact h.c, fun j hj => by have := (freed_lens d s.p.n a).1 j; have := h.lF j hj; omega, h.lG, h.n4, fun i => by
    have := h.hv i
    rcases (freed_lens d s.p.n a).2 i with e | e <;> rw [e] <;> omega⟩
theorem flush_ws (d : Hd_) : ∀ k, (flushTo d k).ws = d.ws
  | 0 => rfl
  | k + 1 => (back_ws _ _).trans (flush_ws d k)
theorem Lite9.flush {G : Nat → List Int} (h : Lite9 s d n F B) (hl : Same3 s t) (hG : ∀ j, j < 3 → (G j).length ≤ C) : Lite9 t (flushD d s.p.n G) n F (B + C) :=
  ⟨by rw [hl.1]; exact h.w, by rw [hl.2.1]; exact h.p, by rw [hl.2.2]; exact h.c, fun j hj => by
    have h1 := flush_len (joinD d G) s.p.n j
    have h2 := join_len d G 3 j
    have h3 := h.lF j hj
    have h4 := hG j hj
    exact Nat.le_trans h1 (Nat.le_trans h2 (by omega)), h.lG, h.n4, fun i => by
    have := h.hv i
    rw [show (flushD d s.p.n G).ws = d.ws from flush_ws _ _]
    exact this⟩
end
end Go.Proofs.YtcbnefjfoeanoaaGreatDoor.Rp
end
section
namespace Go.Proofs.YtcbnefjfoeanoaaGreatDoor.Rp
open Go.Proofs.YtcbnefjfoeanoaaGreatDoor
open Go.RowKit
set_option maxRecDepth 100000

theorem may_first9 {s : Hs} {d : Hd_} {F : Nat → Nat → List Int} : ∀ {m : Nat}, 0 < m → mayH s d m F = true → mayH s d 1 (fun _ => F 0) = true := fun {m} => by
  induction m with
  | zero => intro h; omega
  | succ m ih =>
    intro _ h
    cases m with
    | zero =>
      unfold mayH freeAll at h ⊢
      rw [show Ls.allOf (ahead d.F fun _ => F 0) (1 + 1) = Ls.allOf (ahead d.F F) (1 + (0 + 1)) by simp [Ls.allOf, List.range_succ, ahead]]
      simpa [List.range_succ, ahead] using h
    | succ k => exact ih (by omega) (may_less h)
theorem lrow_tail {W : World} {B n bb off : Nat} {A' : Option Addr} {m : Nat} {U : Nat → Nat → Ls.Sl} {F : Nat → Nat → List Int} (h : Ls.LRow W B (some ⟨bb, off, none⟩) n U F) (hm : m = n - 1) (hA : 0 < m → A' = some ⟨bb, off + 3, none⟩) : Ls.LRow W B A' m (fun i => U (i + 1)) (behind F) := fun h0 => by
  obtain ⟨b', o', e, hlt, hc⟩ := h (by omega)
  cases e
  refine ⟨bb, off + 3, hA h0, hlt, fun i hi => ?_⟩
  have := hc (i + 1) (by omega)
  refine ⟨fun r hr => ?_, this.2⟩
  have h1 := this.1 r hr
  rwa [show off + (i + 1) * 3 + r = off + 3 + i * 3 + r by omega] at h1
theorem used_post (s : Hs) (d : Hd_) (w : World) (hp : Hp w w.heap.size s d) (hz : Cl.Sz w) (hf : Fine s d) (K : Nat) (hK : (usedL s d).length = K) : Calls Tryz.prog 17 #[(.agg #[.slice s.w.a s.w.n s.w.c, .slice s.p.a s.p.n s.p.c, .slice (s.u 0).a (s.u 0).n (s.u 0).c, .slice (s.u 1).a (s.u 1).n (s.u 1).c, .slice (s.u 2).a (s.u 2).n (s.u 2).c, .slice s.c.a s.c.n s.c.c])] w fun e w' => ∃ A' C', e = .returned (.slice A' K C') ∧ Below w.heap.size w w' :=
  (pused_any s d w hp hz hf).mono fun e w' ⟨v, he, ho, hb⟩ => by
    have hn : v.n = K := by have := ho.1; simp at this; omega
    exact ⟨v.a, v.c, by rw [he, hn], hb⟩
/-- What a law holds of a heap that is small, plainly. -/
structure Okl (s : Hs) (d : Hd_) : Prop where
  fine : Fine s d
  may : mayB0 s d = true
  ws : d.ws.length = s.w.n
theorem Okl.wp {s : Hs} {d : Hd_} (h : Okl s d) : s.w.n = 16 * s.p.n ∧ s.p.n ≤ 64 := by
  have := fit_first (mayH_all h.may).1
  exact ⟨this.wp, this.p⟩
theorem kept_call {s t : Hs} {d d' : Hd_} (a : Int) (w : World) (h : Okl s d) (hp : Hp w w.heap.size s d) (hq : Hp w w.heap.size t d') (hz : Cl.Sz w) (hl : t.w.n = s.w.n ∧ t.p.n = s.p.n ∧ t.c.n = s.c.n) (hk : ∀ y ∈ usedL s d, ¬ y = a → Same4 s.p.n d d' y) :
    Calls Tryz.prog 27 #[(.agg #[.slice s.w.a s.w.n s.w.c, .slice s.p.a s.p.n s.p.c, .slice (s.u 0).a (s.u 0).n (s.u 0).c, .slice (s.u 1).a (s.u 1).n (s.u 1).c, .slice (s.u 2).a (s.u 2).n (s.u 2).c, .slice s.c.a s.c.n s.c.c]), (.agg #[.slice t.w.a t.w.n t.w.c, .slice t.p.a t.p.n t.p.c, .slice (t.u 0).a (t.u 0).n (t.u 0).c, .slice (t.u 1).a (t.u 1).n (t.u 1).c, .slice (t.u 2).a (t.u 2).n (t.u 2).c, .slice t.c.a t.c.n t.c.c]), .int .i64 a] w fun e w' => e = .returned (.bool true) ∧ Below w.heap.size w w' :=
  kept_yes s t d d' a w hp hq hz h.fine hl.1 hl.2.1 h.wp.1 h.wp.2 fun y hy => ⟨((used_iff8 h.may).1 hy).1, hk y hy⟩
end Go.Proofs.YtcbnefjfoeanoaaGreatDoor.Rp
end
section
namespace Go.Proofs.YtcbnefjfoeanoaaGreatDoor.Rp
open Go.Proofs.YtcbnefjfoeanoaaGreatDoor
open Go.RowKit
set_option maxRecDepth 100000

theorem lens_of {w : World} {B : Nat} {s : Hs} {d : Hd_} {n C : Nat} {F : Nat → Nat → List Int} (hp : Hp w B s d) (h : Lite9 s d n F C) (hC : C ≤ 1000) : ∀ j, j < 3 → (s.u j).n ≤ 1000000 := fun j hj => by
  have h1 := hp.free.len j hj
  have h2 := h.lF j hj
  omega
theorem free_okc {s : Hs} {d : Hd_} (a : Int) (w : World) (h : Okl s d) (hu : ∀ j, j < 3 → (s.u j).n ≤ 1000000) (hp : Hp w w.heap.size s d) (hz : Cl.Sz w) (hE : headE s d a = 0) : Calls Tryz.prog 22 #[(.agg #[.slice s.w.a s.w.n s.w.c, .slice s.p.a s.p.n s.p.c, .slice (s.u 0).a (s.u 0).n (s.u 0).c, .slice (s.u 1).a (s.u 1).n (s.u 1).c, .slice (s.u 2).a (s.u 2).n (s.u 2).c, .slice s.c.a s.c.n s.c.c]), .int .i64 a] w fun e w' => ∃ t : Hs, e = .returned (.tuple #[(.agg #[.slice t.w.a t.w.n t.w.c, .slice t.p.a t.p.n t.p.c, .slice (t.u 0).a (t.u 0).n (t.u 0).c, .slice (t.u 1).a (t.u 1).n (t.u 1).c, .slice (t.u 2).a (t.u 2).n (t.u 2).c, .slice t.c.a t.c.n t.c.c]), .int .i64 0]) ∧ Hp w' w'.heap.size t (freedD d s.p.n a) ∧ (t.w.n = s.w.n ∧ t.p.n = s.p.n ∧ t.c.n = s.c.n) ∧ Below w.heap.size w w' := by
  have := free_any s d a w hp hz h.fine hu
  unfold rkFree at this
  rw [if_pos hE] at this
  exact this
theorem free_noc {s : Hs} {d : Hd_} (a : Int) (w : World) (h : Okl s d) (hu : ∀ j, j < 3 → (s.u j).n ≤ 1000000) (hp : Hp w w.heap.size s d) (hz : Cl.Sz w) (hE : ¬ headE s d a = 0) : Calls Tryz.prog 22 #[(.agg #[.slice s.w.a s.w.n s.w.c, .slice s.p.a s.p.n s.p.c, .slice (s.u 0).a (s.u 0).n (s.u 0).c, .slice (s.u 1).a (s.u 1).n (s.u 1).c, .slice (s.u 2).a (s.u 2).n (s.u 2).c, .slice s.c.a s.c.n s.c.c]), .int .i64 a] w fun e w' => ∃ t : Hs, e = .returned (.tuple #[(.agg #[.slice t.w.a t.w.n t.w.c, .slice t.p.a t.p.n t.p.c, .slice (t.u 0).a (t.u 0).n (t.u 0).c, .slice (t.u 1).a (t.u 1).n (t.u 1).c, .slice (t.u 2).a (t.u 2).n (t.u 2).c, .slice t.c.a t.c.n t.c.c]), .int .i64 (headE s d a)]) ∧ Hp w' w'.heap.size t dNone ∧ True ∧ Below w.heap.size w w' := by
  have := free_any s d a w hp hz h.fine hu
  unfold rkFree at this
  rw [if_neg hE] at this
  exact this.mono fun _ _ ⟨t, h1, h2, _, h4⟩ => ⟨t, h1, h2, trivial, h4⟩
/-- A Free that may tell an error. -/
theorem free_anyc {s : Hs} {d : Hd_} (a : Int) (w : World) (h : Okl s d) (hu : ∀ j, j < 3 → (s.u j).n ≤ 1000000) (hp : Hp w w.heap.size s d) (hz : Cl.Sz w) : Calls Tryz.prog 22 #[(.agg #[.slice s.w.a s.w.n s.w.c, .slice s.p.a s.p.n s.p.c, .slice (s.u 0).a (s.u 0).n (s.u 0).c, .slice (s.u 1).a (s.u 1).n (s.u 1).c, .slice (s.u 2).a (s.u 2).n (s.u 2).c, .slice s.c.a s.c.n s.c.c]), .int .i64 a] w fun e w' => ∃ t : Hs, e = .returned (.tuple #[(.agg #[.slice t.w.a t.w.n t.w.c, .slice t.p.a t.p.n t.p.c, .slice (t.u 0).a (t.u 0).n (t.u 0).c, .slice (t.u 1).a (t.u 1).n (t.u 1).c, .slice (t.u 2).a (t.u 2).n (t.u 2).c, .slice t.c.a t.c.n t.c.c]), .int .i64 (headE s d a)]) ∧ Hp w' w'.heap.size t (rkFree s d a).d ∧ True ∧ Below w.heap.size w w' := by
  have := free_any s d a w hp hz h.fine hu
  refine this.mono fun _ _ ⟨t, h1, h2, _, h4⟩ => ⟨t, ?_, h2, trivial, h4⟩
  rw [h1]
  unfold rkFree
  split
  · next e => rw [e]
  · rfl
theorem Okl.freed {s t : Hs} {d : Hd_} {n B : Nat} {F : Nat → Nat → List Int} {a : Int} (h : Okl s d) (hli : Lite9 s d n F B) (hB : B ≤ 900) (hE : headE s d a = 0) (hl : t.w.n = s.w.n ∧ t.p.n = s.p.n ∧ t.c.n = s.c.n) : Okl t (freedD d s.p.n a) :=
  ⟨(hli.freed (t := t) a hl).fine (by omega), freed_may0 (t := t) h.ws hE hl, by rw [(freed_is h.ws hE).len, h.ws, hl.1]⟩
theorem head_freed {s t : Hs} {d : Hd_} {a b : Int} (h : Okl s d) (hE : headE s d a = 0) (hl : t.w.n = s.w.n ∧ t.p.n = s.p.n ∧ t.c.n = s.c.n) (hb : headE s d b = 0) (hne : ¬ b = a) : headE t (freedD d s.p.n a) b = 0 := by
  obtain ⟨_, b1, b2⟩ := head_is hb
  have S := (freed_is h.ws hE).keeps b b1 b2 hne
  exact head_mk (freed_may0 (t := t) h.ws hE hl) (by rw [hl.2.1, S.bg]; exact b1) (by rw [S.wd b (Int.le_refl _) (bg_self b1)]; exact b2)
theorem gone_freed {s t : Hs} {d : Hd_} {a : Int} (h : Okl s d) (hE : headE s d a = 0) (hl : t.w.n = s.w.n ∧ t.p.n = s.p.n ∧ t.c.n = s.c.n) : headE t (freedD d s.p.n a) a = 3 :=
  head_gone (freed_may0 (t := t) h.ws hE hl) (by rw [hl.2.1]; exact (freed_is h.ws hE).gone)
/-- What has gone stays gone. -/
theorem stays_gone {s t : Hs} {d : Hd_} {a b : Int} (h : Okl s d) (hE : headE s d a = 0) (hl : t.w.n = s.w.n ∧ t.p.n = s.p.n ∧ t.c.n = s.c.n) (hb : headE s d b = 3) (hne : ¬ b = a) : headE t (freedD d s.p.n a) b = 3 := by
  refine head_gone (freed_may0 (t := t) h.ws hE hl) ?_
  rw [hl.2.1]
  by_cases hc : Cl.bg (freedD d s.p.n a).f s.p.n b = 0
  · exact .inl hc
  · obtain ⟨h1, h2⟩ := (freed_is h.ws hE).none b hc hne
    right
    rw [h2]
    unfold headE at hb
    rw [if_neg (by rw [h.may]; decide)] at hb
    split at hb
    · next hh => exact hh.resolve_left h1
    · omega
theorem head_call {s : Hs} {d : Hd_} {a : Int} (w : World) (h : Okl s d) (hp : Hp w w.heap.size s d) (hz : Cl.Sz w) (hE : headE s d a = 3) : Calls Tryz.prog 19 #[(.agg #[.slice s.w.a s.w.n s.w.c, .slice s.p.a s.p.n s.p.c, .slice (s.u 0).a (s.u 0).n (s.u 0).c, .slice (s.u 1).a (s.u 1).n (s.u 1).c, .slice (s.u 2).a (s.u 2).n (s.u 2).c, .slice s.c.a s.c.n s.c.c]), .int .i64 a] w (HeadOut w (.agg #[.bool false, .bool false, .bool false, .int .i64 0, .int .i64 0, .int .i64 0]) 3) := by
  have := phead_any s d a w hp hz h.fine
  have hV : headV s d a = noHead := by
    unfold headV
    rw [if_neg (by rw [hE]; decide)]
  rw [hV, hE] at this
  exact this
end Go.Proofs.YtcbnefjfoeanoaaGreatDoor.Rp
end
section
namespace Go.Proofs.YtcbnefjfoeanoaaGreatDoor
open Go.RowKit
set_option maxRecDepth 100000

/-- What an append to nothing leaves. -/
structure PNew (w : World) (n : Nat) (f : Nat → Int × Int) (p : Option Addr) (w' : World) : Prop where
  row : Cl.PRow w' w'.heap.size p n f
  bel : Below w.heap.size w w'
  lies : ∀ x, p = some x → w.heap.size ≤ x.block
structure BNew (w : World) (n : Nat) (f : Nat → Bool) (p : Option Addr) (w' : World) : Prop where
  row : BRow w' w'.heap.size p n f
  bel : Below w.heap.size w w'
  lies : ∀ x, p = some x → w.heap.size ≤ x.block
theorem run_pnew {w : World} {B n c : Nat} {A : Option Addr} {f : Nat → Int × Int} (ty : TypeId) (hr : Cl.PRow w B A n f) (hn : n ≤ 1000) :
    ∃ p cp w', (Builtin.append_ #[23, 23] ty #[.slice none 0 0, .slice A n c]).run Tryz.prog w = .ok (.slice p n cp) w' ∧ PNew w n f p w' := by
  obtain ⟨i0, hi, hz0, hz1, hz2⟩ := info_parts Cl.info_page
  by_cases h0 : n = 0
  · subst h0
    have hsrc : Src Tryz.prog i0.size 23 (.slice A 0 c) 0 [] w := by
      rw [hz1]
      cases A with
      | none => exact Src.ofNil _ Tryz.underlying23 c
      | some a => exact Src.ofSlice _ Tryz.underlying23 a 0 c [] rfl (by simp) (by simp)
    exact ⟨none, 0, w, run_append_nothing w 23 23 ty 81 i0 Tryz.underlying23 hi none 0 0 (Nat.le_refl _) _ hsrc, ⟨fun h => absurd h (by omega), Below.refl _ _, fun x hx => by cases hx⟩⟩
  · obtain ⟨b, off, rfl, _, hc⟩ := hr (by omega)
    obtain ⟨g, cap, w', hrun, r1, r2, r3, r4⟩ := run_append_lies (P := Tryz.prog) w 23 ty w.heap.size 81 i0 (.agg #[.int .i64 0, .int .i64 0]) 2 16 Tryz.underlying23 hi hz0 hz1 hz2 rfl (by decide) _ _ _ (World.ownsRow_nil w w.heap.size 81 2) ⟨b, off, none⟩ n c (Cl.pcells f n) (Cl.pcells_length f n) (by
      intro j u hj
      rw [Addr.add_lit]
      exact Cl.pcells_of hc j u hj) Cl.pcells_one (by omega) (by unfold maxLen; omega) (by omega) (Nat.le_refl _) w.heap.size rfl
    have hown : w'.ownsRow w.heap.size 81 2 (.slice (some ⟨g, 0, none⟩) n cap) n (Cl.pcells f n) := by simpa using r1
    obtain ⟨g', c', e, hm⟩ := Cl.pmine_of hown (by omega)
    simp only [Value.slice.injEq, Option.some.injEq, Addr.mk.injEq, and_true, true_and] at e
    obtain ⟨rfl, rfl⟩ := e
    refine ⟨some ⟨g, 0, none⟩, cap, w', by simpa using hrun, ⟨hm.row, (Below.refl _ _).grown r2 (Nat.le_refl _) (by intro j hj; cases hj), fun x hx => ?_⟩⟩
    cases hx
    exact hm.2.1
theorem run_bnew {w : World} {B n c : Nat} {A : Option Addr} {f : Nat → Bool} (ty : TypeId) (hr : BRow w B A n f) (hn : n ≤ 1000000) :
    ∃ p cp w', (Builtin.append_ #[26, 26] ty #[.slice none 0 0, .slice A n c]).run Tryz.prog w = .ok (.slice p n cp) w' ∧ BNew w n f p w' := by
  obtain ⟨i0, hi, hz0, hz1, hz2⟩ := info_parts info_boolC
  by_cases h0 : n = 0
  · subst h0
    have hsrc : Src Tryz.prog i0.size 26 (.slice A 0 c) 0 [] w := by
      rw [hz1]
      cases A with
      | none => exact Src.ofNil _ Tryz.underlying26 c
      | some a => exact Src.ofSlice _ Tryz.underlying26 a 0 c [] rfl (by simp) (by simp)
    exact ⟨none, 0, w, run_append_nothing w 26 26 ty 4 i0 Tryz.underlying26 hi none 0 0 (Nat.le_refl _) _ hsrc, ⟨fun h => absurd h (by omega), Below.refl _ _, fun x hx => by cases hx⟩⟩
  · obtain ⟨b, off, rfl, _, hc⟩ := hr (by omega)
    obtain ⟨g, cap, w', hrun, r1, r2, r3, r4⟩ := run_append_lies (P := Tryz.prog) w 26 ty w.heap.size 4 i0 (.bool false) 1 1 Tryz.underlying26 hi hz0 hz1 hz2 rfl (by decide) _ _ _ (World.ownsRow_nil w w.heap.size 4 1) ⟨b, off, none⟩ n c (bcells f n) (by simp [bcells]) (by
      intro j u hj
      rw [Addr.add_lit]
      have hjn : j < n := by
        have := (List.getElem?_eq_some_iff.1 hj).1
        simpa [bcells] using this
      rw [bcells_at f n j hjn] at hj
      rw [← hj]
      exact hc j hjn) (by
      intro u hu
      obtain ⟨x, _, rfl⟩ := List.mem_map.1 hu
      rfl) (by omega) (by unfold maxLen; omega) (by omega) (Nat.le_refl _) w.heap.size rfl
    have hown : w'.ownsRow w.heap.size 4 1 (.slice (some ⟨g, 0, none⟩) n cap) n (bcells f n) := by simpa using r1
    obtain ⟨g', c', e, hm, hb, hl⟩ := bmade_of hown (by omega)
    simp only [Value.slice.injEq, Option.some.injEq, Addr.mk.injEq, and_true, true_and] at e
    obtain ⟨rfl, rfl⟩ := e
    refine ⟨some ⟨g, 0, none⟩, cap, w', by simpa using hrun, ⟨fun _ => ⟨g, 0, rfl, hl, fun i hi => by rw [Nat.zero_add]; exact hm i hi⟩, (Below.refl _ _).grown r2 (Nat.le_refl _) (by intro j hj; cases hj), fun x hx => ?_⟩⟩
    cases hx
    exact hb
theorem list_pnew {w : World} {ops : Array Oper} {rest : List Oper} {o : Oper} {a : Act} {Q : Exit → Act → World → Prop} (hgd : o.guard = none) (s x : Operand)
    (ho : o.op = .call { callee := .builtin .append, args := #[s, x], argTypes := #[23, 23] }) {B n c : Nat} {A : Option Addr} {f : Nat → Int × Int}
    (hs : a.eval s = .slice none 0 0) (hx : a.eval x = .slice A n c) (hr : Cl.PRow w B A n f) (hn : n ≤ 1000)
    (hK : ∀ p cp w', PNew w n f p w' → wpList Tryz.prog ops Q rest (a.put o.dst (.slice p n cp)) w') : wpList Tryz.prog ops Q (o :: rest) a w :=
  wpList_plain hgd fun _ hK' => by
    obtain ⟨p, cp, w', hrun, h1⟩ := run_pnew (c := c) o.type hr hn
    unfold Oper.wp execOp
    simp only [ho, resolve, invoke, builtin, Sem.run_bind, Sem.run_pure, Result.andThen_ok, List.map_toArray, List.map_cons, List.map_nil, hs, hx, hrun]
    exact hK' _ _ (hK p cp w' h1)
theorem list_bnew {w : World} {ops : Array Oper} {rest : List Oper} {o : Oper} {a : Act} {Q : Exit → Act → World → Prop} (hgd : o.guard = none) (s x : Operand)
    (ho : o.op = .call { callee := .builtin .append, args := #[s, x], argTypes := #[26, 26] }) {B n c : Nat} {A : Option Addr} {f : Nat → Bool}
    (hs : a.eval s = .slice none 0 0) (hx : a.eval x = .slice A n c) (hr : BRow w B A n f) (hn : n ≤ 1000000)
    (hK : ∀ p cp w', BNew w n f p w' → wpList Tryz.prog ops Q rest (a.put o.dst (.slice p n cp)) w') : wpList Tryz.prog ops Q (o :: rest) a w :=
  wpList_plain hgd fun _ hK' => by
    obtain ⟨p, cp, w', hrun, h1⟩ := run_bnew (c := c) o.type hr hn
    unfold Oper.wp execOp
    simp only [ho, resolve, invoke, builtin, Sem.run_bind, Sem.run_pure, Result.andThen_ok, List.map_toArray, List.map_cons, List.map_nil, hs, hx, hrun]
    exact hK' _ _ (hK p cp w' h1)
/-- Two blocks alone are turned, of those that were there. -/
def Stp (x y : Nat) (w w' : World) : Prop := w.heap.size ≤ w'.heap.size ∧ ∀ k, k < w.heap.size → ¬ k = x → ¬ k = y → w'.heap[k]? = w.heap[k]?
section
variable {x y : Nat} {w w' w'' : World}
theorem Stp.trans (h : Stp x y w w') (h' : Stp x y w' w'') : Stp x y w w'' := ⟨Nat.le_trans h.1 h'.1, fun k hk h1 h2 => (h'.2 k (Nat.lt_of_lt_of_le hk h.1) h1 h2).trans (h.2 k hk h1 h2)⟩
theorem Stp.of_below (h : Below w.heap.size w w') : Stp x y w w' := ⟨h.size, fun k hk _ _ => h.block k hk⟩
theorem Stp.set (j : Nat) (v : Value) : Stp x y w (w.setCell ⟨x, j, none⟩ v) := ⟨by simp [World.setCell], fun _ _ h1 _ => Below.heap_setCell _ _ _ _ h1⟩
theorem Stp.put (v0 v1 v2 v3 v4 v5 : Value) : Stp x y w (put6 w y v0 v1 v2 v3 v4 v5) := ⟨by rw [put6_size]; exact Nat.le_refl _, fun _ _ _ h2 => put6_other _ _ _ _ _ _ _ _ h2⟩
/-- A slice lies in neither. -/
def Out2 (x y : Nat) (v : Ls.Sl) : Prop := 0 < v.n → ∀ z, v.a = some z → ¬ z.block = x ∧ ¬ z.block = y
theorem row_stp {v : Ls.Sl} {xs : List Int} (h : Row w w.heap.size v.a v.n xs) (ho : Out2 x y v) (hs : Stp x y w w') : Row w' w'.heap.size v.a v.n xs := by
  refine (row_same h fun hn z hz => ?_).more hs.1
  obtain ⟨b, off, e, hlt, _⟩ := h.2 hn
  rw [hz] at e
  cases e
  exact hs.2 _ hlt (ho hn _ hz).1 (ho hn _ hz).2
theorem prow_stp {v : Ls.Sl} {f : Nat → Int × Int} (h : Cl.PRow w w.heap.size v.a v.n f) (ho : Out2 x y v) (hs : Stp x y w w') : Cl.PRow w' w'.heap.size v.a v.n f := fun hn => by
  obtain ⟨b, off, e, hlt, hc⟩ := h hn
  have hb := hs.2 b hlt (ho hn _ e).1 (ho hn _ e).2
  exact ⟨b, off, e, Nat.lt_of_lt_of_le hlt hs.1, fun i hi => ⟨(World.cell?_of_block (a := ⟨b, off + i * 2, none⟩) hb).trans (hc i hi).1, (World.cell?_of_block (a := ⟨b, off + i * 2 + 1, none⟩) hb).trans (hc i hi).2⟩⟩
theorem brow_stp {v : Ls.Sl} {f : Nat → Bool} (h : BRow w w.heap.size v.a v.n f) (ho : Out2 x y v) (hs : Stp x y w w') : BRow w' w'.heap.size v.a v.n f := fun hn => by
  obtain ⟨b, off, e, hlt, hc⟩ := h hn
  have hb := hs.2 b hlt (ho hn _ e).1 (ho hn _ e).2
  exact ⟨b, off, e, Nat.lt_of_lt_of_le hlt hs.1, fun i hi => (World.cell?_of_block (a := ⟨b, off + i, none⟩) hb).trans (hc i hi)⟩
end
end Go.Proofs.YtcbnefjfoeanoaaGreatDoor
end
section
namespace Go.Proofs.YtcbnefjfoeanoaaGreatDoor
open Go.RowKit
set_option maxRecDepth 100000

/-- What Own leaves. -/
def OwnOut (w : World) (s : Hs) (d : Hd_) (e : Ending) (w' : World) : Prop :=
  ∃ t : Hs, e = .returned (.agg #[.slice t.w.a t.w.n t.w.c, .slice t.p.a t.p.n t.p.c, .slice (t.u 0).a (t.u 0).n (t.u 0).c, .slice (t.u 1).a (t.u 1).n (t.u 1).c, .slice (t.u 2).a (t.u 2).n (t.u 2).c, .slice t.c.a t.c.n t.c.c]) ∧ w'.ownsRow w.heap.size 3 1 (.slice t.w.a t.w.n t.w.c) t.w.n (d.ws.map (Value.int .i64)) ∧ Hp w' w'.heap.size t d ∧ Lens s t ∧ News w.heap.size t ∧
    (∀ x, t.w.a = some x → (0 < t.p.n → ∀ z, t.p.a = some z → ¬ z.block = x.block) ∧ (∀ j, j < 3 → 0 < (t.u j).n → ∀ z, (t.u j).a = some z → ¬ z.block = x.block) ∧ (0 < t.c.n → ∀ z, t.c.a = some z → ¬ z.block = x.block)) ∧ Below w.heap.size w w'
theorem own7_end {w W0 w1 w3 w4 w5 w6 w7 w9 : World} {s : Hs} {d : Hd_} {v : Nat → Ls.Sl} {p3 p5 p7 : Option Addr} {c3 c5 c7 : Nat} (hl0 : w.heap.size + 1 < W0.heap.size) (hb1 : Below W0.heap.size W0 w1) (ho1 : Ls.Own3 w1 W0.heap.size v d.F)
    (h3 : w3.ownsRow (w1.heap.size + 1) 3 1 (.slice p3 s.w.n c3) s.w.n (d.ws.map (Value.int .i64))) (hs3 : w1.heap.size + 1 ≤ w3.heap.size) (e4 : w4.heap.size = w3.heap.size) (h5 : PNew w4 s.p.n d.f p5 w5) (e6 : w6.heap.size = w5.heap.size) (h7 : BNew w6 s.c.n d.cs p7 w7)
    (t1 : Stp w1.heap.size (w.heap.size + 1) w1 w9) (t3 : Stp w1.heap.size (w.heap.size + 1) w3 w9) (t5 : Stp w1.heap.size (w.heap.size + 1) w5 w9) (t7 : Stp w1.heap.size (w.heap.size + 1) w7 w9) (hbel : Below w.heap.size w w9) (hun : ∀ j, j < 3 → (v j).n = (s.u j).n) :
    OwnOut w s d (.returned (.agg #[.slice (⟨⟨p3, s.w.n, c3⟩, ⟨p5, s.p.n, c5⟩, v, ⟨p7, s.c.n, c7⟩⟩ : Hs).w.a (⟨⟨p3, s.w.n, c3⟩, ⟨p5, s.p.n, c5⟩, v, ⟨p7, s.c.n, c7⟩⟩ : Hs).w.n (⟨⟨p3, s.w.n, c3⟩, ⟨p5, s.p.n, c5⟩, v, ⟨p7, s.c.n, c7⟩⟩ : Hs).w.c, .slice (⟨⟨p3, s.w.n, c3⟩, ⟨p5, s.p.n, c5⟩, v, ⟨p7, s.c.n, c7⟩⟩ : Hs).p.a (⟨⟨p3, s.w.n, c3⟩, ⟨p5, s.p.n, c5⟩, v, ⟨p7, s.c.n, c7⟩⟩ : Hs).p.n (⟨⟨p3, s.w.n, c3⟩, ⟨p5, s.p.n, c5⟩, v, ⟨p7, s.c.n, c7⟩⟩ : Hs).p.c, .slice ((⟨⟨p3, s.w.n, c3⟩, ⟨p5, s.p.n, c5⟩, v, ⟨p7, s.c.n, c7⟩⟩ : Hs).u 0).a ((⟨⟨p3, s.w.n, c3⟩, ⟨p5, s.p.n, c5⟩, v, ⟨p7, s.c.n, c7⟩⟩ : Hs).u 0).n ((⟨⟨p3, s.w.n, c3⟩, ⟨p5, s.p.n, c5⟩, v, ⟨p7, s.c.n, c7⟩⟩ : Hs).u 0).c, .slice ((⟨⟨p3, s.w.n, c3⟩, ⟨p5, s.p.n, c5⟩, v, ⟨p7, s.c.n, c7⟩⟩ : Hs).u 1).a ((⟨⟨p3, s.w.n, c3⟩, ⟨p5, s.p.n, c5⟩, v, ⟨p7, s.c.n, c7⟩⟩ : Hs).u 1).n ((⟨⟨p3, s.w.n, c3⟩, ⟨p5, s.p.n, c5⟩, v, ⟨p7, s.c.n, c7⟩⟩ : Hs).u 1).c, .slice ((⟨⟨p3, s.w.n, c3⟩, ⟨p5, s.p.n, c5⟩, v, ⟨p7, s.c.n, c7⟩⟩ : Hs).u 2).a ((⟨⟨p3, s.w.n, c3⟩, ⟨p5, s.p.n, c5⟩, v, ⟨p7, s.c.n, c7⟩⟩ : Hs).u 2).n ((⟨⟨p3, s.w.n, c3⟩, ⟨p5, s.p.n, c5⟩, v, ⟨p7, s.c.n, c7⟩⟩ : Hs).u 2).c, .slice (⟨⟨p3, s.w.n, c3⟩, ⟨p5, s.p.n, c5⟩, v, ⟨p7, s.c.n, c7⟩⟩ : Hs).c.a (⟨⟨p3, s.w.n, c3⟩, ⟨p5, s.p.n, c5⟩, v, ⟨p7, s.c.n, c7⟩⟩ : Hs).c.n (⟨⟨p3, s.w.n, c3⟩, ⟨p5, s.p.n, c5⟩, v, ⟨p7, s.c.n, c7⟩⟩ : Hs).c.c])) w9 := by
  have z1 := hb1.size
  have z5 := h5.bel.size
  obtain ⟨a3, k3, e3, hr3, _, _⟩ := Ls.owns_row h3
  simp only [Value.slice.injEq, true_and] at e3
  obtain ⟨rfl, rfl⟩ := e3
  have l3 : ∀ x, p3 = some x → w1.heap.size + 1 ≤ x.block ∧ x.block < w3.heap.size := fun x hx => h3.lt x.block (by rw [Ls.ownBlock_slice, hx]; rfl)
  have lv : ∀ j, j < 3 → ∀ x, (v j).a = some x → W0.heap.size ≤ x.block ∧ x.block < w1.heap.size := fun j hj x hx => ho1.block j hj hx
  have hv := ho1.l3
  refine ⟨⟨⟨p3, s.w.n, c3⟩, ⟨p5, s.p.n, c5⟩, v, ⟨p7, s.c.n, c7⟩⟩, rfl, ?_, ⟨?_, ?_, fun j hj => ⟨?_, (hv j hj).2⟩, ?_⟩, ⟨rfl, rfl, hun, rfl⟩, ⟨fun _ x hx => by have := (l3 x hx).1; omega, fun _ x hx => by have := h5.lies x hx; omega, fun j hj _ x hx => by have := (lv j hj x hx).1; omega, fun _ x hx => by have := h7.lies x hx; omega⟩, fun x hx => ⟨fun _ z hz => ?_, fun j hj _ z hz => ?_, fun _ z hz => ?_⟩, hbel⟩
  · have h3' : w3.ownsRow w.heap.size 3 1 (.slice p3 s.w.n c3) s.w.n (d.ws.map (Value.int .i64)) := ⟨h3.1, h3.2.imp id fun ⟨g, cap, cur, e, hg, r⟩ => ⟨g, cap, cur, e, by omega, r⟩⟩
    refine Ls.World.ownsRow.same h3' fun g hg hlt => ?_
    rw [Ls.ownBlock_slice] at hg
    cases hp3 : p3 with
    | none => rw [hp3] at hg; cases hg
    | some x =>
      rw [hp3] at hg
      simp at hg
      subst hg
      exact t3.2 _ hlt (by have := (l3 x hp3).1; omega) (by have := (l3 x hp3).1; omega)
  · exact row_stp (v := ⟨p3, s.w.n, c3⟩) hr3 (fun _ z hz => by have := (l3 z hz).1; exact ⟨by omega, by omega⟩) t3
  · exact prow_stp (v := ⟨p5, s.p.n, c5⟩) h5.row (fun _ z hz => by have := h5.lies z hz; exact ⟨by omega, by omega⟩) t5
  · exact row_stp (hv j hj).1 (fun _ z hz => by have := lv j hj z hz; exact ⟨by omega, by omega⟩) t1
  · exact brow_stp (v := ⟨p7, s.c.n, c7⟩) h7.row (fun _ z hz => by have := h7.lies z hz; exact ⟨by omega, by omega⟩) t7
  · have h1 := (l3 x hx).2
    have h2 := h5.lies z hz
    omega
  · have h1 := (l3 x hx).1
    have h2 := (lv j hj z hz).2
    omega
  · have h1 := (l3 x hx).2
    have h2 := h7.lies z hz
    omega
/-- What a walk through Own has in memory. -/
structure Ow (w W : World) (bo : Nat) (s t : Hs) : Prop where
  bel : Below w.heap.size w W
  hb : HBox W w.heap.size s
  rb : Box6 W (w.heap.size + 1) noHs
  ob : Box6 W bo t
  lo : w.heap.size + 2 ≤ bo
theorem Ow.next {w W W' : World} {bo : Nat} {s t : Hs} (h : Ow w W bo s t) (hb : Below W.heap.size W W') : Ow w W' bo s t := ⟨h.bel.trans (hb.mono h.bel.size), h.hb.next hb, h.rb.next hb, h.ob.next hb, h.lo⟩
theorem Ow.set {w W : World} {bo : Nat} {s t t' : Hs} (h : Ow w W bo s t) (k : Nat) (x : Value)
    (e0 : Value.slice t'.w.a t'.w.n t'.w.c = if 0 = k then x else .slice t.w.a t.w.n t.w.c) (e1 : Value.slice t'.p.a t'.p.n t'.p.c = if 1 = k then x else .slice t.p.a t.p.n t.p.c)
    (e2 : Value.slice (t'.u 0).a (t'.u 0).n (t'.u 0).c = if 2 = k then x else .slice (t.u 0).a (t.u 0).n (t.u 0).c) (e3 : Value.slice (t'.u 1).a (t'.u 1).n (t'.u 1).c = if 3 = k then x else .slice (t.u 1).a (t.u 1).n (t.u 1).c)
    (e4 : Value.slice (t'.u 2).a (t'.u 2).n (t'.u 2).c = if 4 = k then x else .slice (t.u 2).a (t.u 2).n (t.u 2).c) (e5 : Value.slice t'.c.a t'.c.n t'.c.c = if 5 = k then x else .slice t.c.a t.c.n t.c.c) : Ow w (W.setCell ⟨bo, k, none⟩ x) bo s t' := by
  have hsz : W.heap.size = (W.setCell ⟨bo, k, none⟩ x).heap.size := by simp [World.setCell]
  have hoth : ∀ j, ¬ j = bo → (W.setCell ⟨bo, k, none⟩ x).heap[j]? = W.heap[j]? := fun j hj => Below.heap_setCell _ _ _ _ hj
  have hlo := h.lo
  have hB : Box6 W bo t := h.ob
  exact ⟨h.bel.setCell (p := ⟨bo, k, none⟩) (by show w.heap.size ≤ bo; omega) _, hbox_same h.hb (hoth _ (by omega)) (Nat.le_of_eq hsz), h.rb.same (hoth _ (by omega)) (Nat.le_of_eq hsz),
    ⟨⟨cell_set hB.box.c0 e0, cell_set hB.box.c1 e1, cell_set hB.box.c2 e2, cell_set hB.box.c3 e3, cell_set hB.box.c4 e4, cell_set hB.box.c5 e5, by rw [← hsz]; exact hB.box.lt⟩, frozen_set hB.free⟩, hlo⟩
theorem res_own {W : World} {b : Nat} {tm : Array Value} {v0 v1 v2 v3 v4 v5 : Value} (ht : tm[2]? = some (.pointer (some ⟨b, 0, none⟩))) (k0 : W.cell? ⟨b, 0, none⟩ = some v0) (k1 : W.cell? ⟨b, 1, none⟩ = some v1) (k2 : W.cell? ⟨b, 2, none⟩ = some v2) (k3 : W.cell? ⟨b, 3, none⟩ = some v3) (k4 : W.cell? ⟨b, 4, none⟩ = some v4) (k5 : W.cell? ⟨b, 5, none⟩ = some v5) :
    (results Tryz.f10 tm).run Tryz.prog W = .ok (.agg #[v0, v1, v2, v3, v4, v5]) W := by
  simp [results, Tryz.results10, go_sem, ht, k0, k1, k2, k3, k4, k5]
set_option maxHeartbeats 2000000 in
theorem rown7_any (s : Hs) (d : Hd_) (w : World) (hp : Hp w w.heap.size s d) (hwn : s.w.n ≤ 4000) (hpn : s.p.n ≤ 1000) (hcn : s.c.n ≤ 100000) (hun : ∀ j, j < 3 → (s.u j).n ≤ 2000000) : Calls Tryz.prog 10 #[(.agg #[.slice s.w.a s.w.n s.w.c, .slice s.p.a s.p.n s.p.c, .slice (s.u 0).a (s.u 0).n (s.u 0).c, .slice (s.u 1).a (s.u 1).n (s.u 1).c, .slice (s.u 2).a (s.u 2).n (s.u 2).c, .slice s.c.a s.c.n s.c.c])] w (OwnOut w s d) := by
  have HP := Lib.hid hp
  have HUN := Lib.hid hun
  clear hp hun
  go_enter Tryz.func10, Tryz.ntmps10
  go_wp2_with fail
  obtain ⟨W0, hW0⟩ : ∃ W0, W0 = (w.alloc (.cells #[.slice s.w.a s.w.n s.w.c, .slice s.p.a s.p.n s.p.c, .slice (s.u 0).a (s.u 0).n (s.u 0).c, .slice (s.u 1).a (s.u 1).n (s.u 1).c, .slice (s.u 2).a (s.u 2).n (s.u 2).c, .slice s.c.a s.c.n s.c.c] 28)).alloc (.cells #[.slice none 0 0, .slice none 0 0, .slice none 0 0, .slice none 0 0, .slice none 0 0, .slice none 0 0] 28) := ⟨_, rfl⟩
  have K0 := Lib.hid (cp_start HP.out hW0)
  rw [← hW0]
  clear hW0
  have hl0 : w.heap.size + 1 < W0.heap.size := K0.out.res.box.lt
  refine (Ls.rown_any W0.heap.size s.u d.F W0 K0.out.hp.free (Nat.le_refl _) HUN.out).mono ?_
  rintro e9 w1 ⟨v, rfl, ho1, hb1⟩
  have O1 := Lib.hid (And.intro ho1 hb1)
  have hs1 := hb1.size
  have bOB := HBox.new w1 ⟨⟨none, 0, 0⟩, ⟨none, 0, 0⟩, v, ⟨none, 0, 0⟩⟩ 28
  have fOB : ∀ j, (w1.alloc (.cells #[.slice none 0 0, .slice none 0 0, .slice (v 0).a (v 0).n (v 0).c, .slice (v 1).a (v 1).n (v 1).c, .slice (v 2).a (v 2).n (v 2).c, .slice none 0 0] 28)).frozen? ⟨w1.heap.size, j, none⟩ = false := fun j => by simp [go_sem]
  have b2 := (Below.refl w1.heap.size w1).alloc (Nat.le_refl _) (.cells #[.slice none 0 0, .slice none 0 0, .slice (v 0).a (v 0).n (v 0).c, .slice (v 1).a (v 1).n (v 1).c, .slice (v 2).a (v 2).n (v 2).c, .slice none 0 0] 28)
  have K1 := K0.out.next hb1
  have K2 : Hid (Ow w (w1.alloc (.cells #[.slice none 0 0, .slice none 0 0, .slice (v 0).a (v 0).n (v 0).c, .slice (v 1).a (v 1).n (v 1).c, .slice (v 2).a (v 2).n (v 2).c, .slice none 0 0] 28)) w1.heap.size s ⟨⟨none, 0, 0⟩, ⟨none, 0, 0⟩, v, ⟨none, 0, 0⟩⟩) := Lib.hid ⟨(K1.next b2).bel, (K1.next b2).box.box, (K1.next b2).res, ⟨bOB, fOB⟩, by omega⟩
  clear ho1 hb1 bOB fOB b2 K1 K0
  have q0 := K2.out.hb.c0
  have ql := K2.out.hb.lt
  go_wp2_with (at_builtin; refine Ls.list_cat rfl (.tmp 9) (.tmp 11) rfl rfl rfl (xs := []) (base := w1.heap.size + 1) (World.ownsRow_nil _ _ _ _) (HP.out.words.below K2.out.bel) (by simp) (by omega) ?_)
  intro p3 c3 w3 hcat
  have h3 : w3.ownsRow (w1.heap.size + 1) 3 1 (.slice p3 s.w.n c3) s.w.n (d.ws.map (Value.int .i64)) := by simpa using hcat.own
  have b3 : Below (w1.alloc (.cells #[.slice none 0 0, .slice none 0 0, .slice (v 0).a (v 0).n (v 0).c, .slice (v 1).a (v 1).n (v 1).c, .slice (v 2).a (v 2).n (v 2).c, .slice none 0 0] 28)).heap.size (w1.alloc (.cells #[.slice none 0 0, .slice none 0 0, .slice (v 0).a (v 0).n (v 0).c, .slice (v 1).a (v 1).n (v 1).c, .slice (v 2).a (v 2).n (v 2).c, .slice none 0 0] 28)) w3 := (Below.refl _ _).grown hcat.grown (Nat.le_refl _) (by intro j hj; cases hj)
  have K3 := Lib.hid (K2.out.next b3)
  have K4 := Lib.hid (K3.out.set (t' := ⟨⟨p3, s.w.n, c3⟩, ⟨none, 0, 0⟩, v, ⟨none, 0, 0⟩⟩) 0 (.slice p3 s.w.n c3) rfl rfl rfl rfl rfl rfl)
  have T3 := Lib.hid (And.intro h3 b3)
  clear hcat h3 b3 q0 ql
  have x0 := K3.out.ob.box.c0
  have x1 := K3.out.ob.box.c1
  have xf := K3.out.ob.free 0
  have xl := K3.out.ob.box.lt
  have q1 := K3.out.hb.c1
  have ql := K3.out.hb.lt
  dsimp only at x0 x1
  go_wp2_with (at_builtin; refine list_pnew rfl (.tmp 15) (.tmp 17) rfl rfl rfl (HP.out.pages.below K4.out.bel) hpn ?_)
  intro p5 c5 w5 h5
  have K5 := Lib.hid (K4.out.next h5.bel)
  have K6 := Lib.hid (K5.out.set (t' := ⟨⟨p3, s.w.n, c3⟩, ⟨p5, s.p.n, c5⟩, v, ⟨none, 0, 0⟩⟩) 1 (.slice p5 s.p.n c5) rfl rfl rfl rfl rfl rfl)
  have T5 := Lib.hid h5
  clear h5 x0 x1 xf xl q1 ql
  have x1 := K5.out.ob.box.c1
  have x5 := K5.out.ob.box.c5
  have xf := K5.out.ob.free 1
  have xl := K5.out.ob.box.lt
  have q5 := K5.out.hb.c5
  have ql := K5.out.hb.lt
  dsimp only at x1 x5
  go_wp2_with (at_builtin; refine list_bnew rfl (.tmp 21) (.tmp 23) rfl rfl rfl (HP.out.cards.below K6.out.bel) (by omega) ?_)
  intro p7 c7 w7 h7
  have K7 := Lib.hid (K6.out.next h7.bel)
  have K8 := Lib.hid (K7.out.set (t' := ⟨⟨p3, s.w.n, c3⟩, ⟨p5, s.p.n, c5⟩, v, ⟨p7, s.c.n, c7⟩⟩) 5 (.slice p7 s.c.n c7) rfl rfl rfl rfl rfl rfl)
  have T7 := Lib.hid h7
  clear h7 x1 x5 xf xl q5 ql
  have x0 := K7.out.ob.box.c0
  have x1 := K7.out.ob.box.c1
  have x2 := K7.out.ob.box.c2
  have x3 := K7.out.ob.box.c3
  have x4 := K7.out.ob.box.c4
  have x5 := K7.out.ob.box.c5
  have xf := K7.out.ob.free 5
  have xl := K7.out.ob.box.lt
  have y0 := K7.out.rb.box.c0
  have y1 := K7.out.rb.box.c1
  have y2 := K7.out.rb.box.c2
  have y3 := K7.out.rb.box.c3
  have y4 := K7.out.rb.box.c4
  have y5 := K7.out.rb.box.c5
  have yl := K7.out.rb.box.lt
  have f0 := K7.out.rb.free 0
  have f1 := K7.out.rb.free 1
  have f2 := K7.out.rb.free 2
  have f3 := K7.out.rb.free 3
  have f4 := K7.out.rb.free 4
  have f5 := K7.out.rb.free 5
  have hne : ¬ w.heap.size + 1 = w1.heap.size := by omega
  dsimp only [noHs, Ls.noSl] at x0 x1 x2 x3 x4 x5 y0 y1 y2 y3 y4 y5
  go_wp2
  have st := fun (a b : World) (h : Below a.heap.size a b) => (Stp.of_below (x := w1.heap.size) (y := w.heap.size + 1) h)
  have t7 : Stp w1.heap.size (w.heap.size + 1) w7 (put6 (w7.setCell ⟨w1.heap.size, 5, none⟩ (.slice p7 s.c.n c7)) (w.heap.size + 1) (.slice p3 s.w.n c3) (.slice p5 s.p.n c5) (.slice (v 0).a (v 0).n (v 0).c) (.slice (v 1).a (v 1).n (v 1).c) (.slice (v 2).a (v 2).n (v 2).c) (.slice p7 s.c.n c7)) := (Stp.set 5 _).trans (Stp.put _ _ _ _ _ _)
  have t5 := (Stp.set (x := w1.heap.size) (y := w.heap.size + 1) (w := w5) 1 (.slice p5 s.p.n c5)).trans ((st _ _ T7.out.bel).trans t7)
  have t3 := (Stp.set (x := w1.heap.size) (y := w.heap.size + 1) (w := w3) 0 (.slice p3 s.w.n c3)).trans ((st _ _ T5.out.bel).trans t5)
  have t1 := (st _ _ ((Below.refl w1.heap.size w1).alloc (Nat.le_refl _) (.cells #[.slice none 0 0, .slice none 0 0, .slice (v 0).a (v 0).n (v 0).c, .slice (v 1).a (v 1).n (v 1).c, .slice (v 2).a (v 2).n (v 2).c, .slice none 0 0] 28))).trans ((st _ _ T3.out.2).trans t3)
  refine bodyPost_ret (v := (.agg #[.slice (⟨⟨p3, s.w.n, c3⟩, ⟨p5, s.p.n, c5⟩, v, ⟨p7, s.c.n, c7⟩⟩ : Hs).w.a (⟨⟨p3, s.w.n, c3⟩, ⟨p5, s.p.n, c5⟩, v, ⟨p7, s.c.n, c7⟩⟩ : Hs).w.n (⟨⟨p3, s.w.n, c3⟩, ⟨p5, s.p.n, c5⟩, v, ⟨p7, s.c.n, c7⟩⟩ : Hs).w.c, .slice (⟨⟨p3, s.w.n, c3⟩, ⟨p5, s.p.n, c5⟩, v, ⟨p7, s.c.n, c7⟩⟩ : Hs).p.a (⟨⟨p3, s.w.n, c3⟩, ⟨p5, s.p.n, c5⟩, v, ⟨p7, s.c.n, c7⟩⟩ : Hs).p.n (⟨⟨p3, s.w.n, c3⟩, ⟨p5, s.p.n, c5⟩, v, ⟨p7, s.c.n, c7⟩⟩ : Hs).p.c, .slice ((⟨⟨p3, s.w.n, c3⟩, ⟨p5, s.p.n, c5⟩, v, ⟨p7, s.c.n, c7⟩⟩ : Hs).u 0).a ((⟨⟨p3, s.w.n, c3⟩, ⟨p5, s.p.n, c5⟩, v, ⟨p7, s.c.n, c7⟩⟩ : Hs).u 0).n ((⟨⟨p3, s.w.n, c3⟩, ⟨p5, s.p.n, c5⟩, v, ⟨p7, s.c.n, c7⟩⟩ : Hs).u 0).c, .slice ((⟨⟨p3, s.w.n, c3⟩, ⟨p5, s.p.n, c5⟩, v, ⟨p7, s.c.n, c7⟩⟩ : Hs).u 1).a ((⟨⟨p3, s.w.n, c3⟩, ⟨p5, s.p.n, c5⟩, v, ⟨p7, s.c.n, c7⟩⟩ : Hs).u 1).n ((⟨⟨p3, s.w.n, c3⟩, ⟨p5, s.p.n, c5⟩, v, ⟨p7, s.c.n, c7⟩⟩ : Hs).u 1).c, .slice ((⟨⟨p3, s.w.n, c3⟩, ⟨p5, s.p.n, c5⟩, v, ⟨p7, s.c.n, c7⟩⟩ : Hs).u 2).a ((⟨⟨p3, s.w.n, c3⟩, ⟨p5, s.p.n, c5⟩, v, ⟨p7, s.c.n, c7⟩⟩ : Hs).u 2).n ((⟨⟨p3, s.w.n, c3⟩, ⟨p5, s.p.n, c5⟩, v, ⟨p7, s.c.n, c7⟩⟩ : Hs).u 2).c, .slice (⟨⟨p3, s.w.n, c3⟩, ⟨p5, s.p.n, c5⟩, v, ⟨p7, s.c.n, c7⟩⟩ : Hs).c.a (⟨⟨p3, s.w.n, c3⟩, ⟨p5, s.p.n, c5⟩, v, ⟨p7, s.c.n, c7⟩⟩ : Hs).c.n (⟨⟨p3, s.w.n, c3⟩, ⟨p5, s.p.n, c5⟩, v, ⟨p7, s.c.n, c7⟩⟩ : Hs).c.c])) ?_ rfl (own7_end hl0 O1.out.2 O1.out.1 T3.out.1 (by have := T3.out.2.size; simpa using this) (by simp [World.setCell]) T5.out (by simp [World.setCell]) T7.out t1 t3 t5 t7 (below_put6 K8.out.bel (by omega) _ _ _ _ _ _) (fun j hj => by have h1 := O1.out.1.l3.len j hj; have h2 := HP.out.free.len j hj; omega))
  obtain ⟨k0, k1, k2, k3, k4, k5⟩ := put6_at K8.out.rb (.slice p3 s.w.n c3) (.slice p5 s.p.n c5) (.slice (v 0).a (v 0).n (v 0).c) (.slice (v 1).a (v 1).n (v 1).c) (.slice (v 2).a (v 2).n (v 2).c) (.slice p7 s.c.n c7)
  exact res_own rfl k0 k1 k2 k3 k4 k5
end Go.Proofs.YtcbnefjfoeanoaaGreatDoor
end
section
namespace Go.Proofs.YtcbnefjfoeanoaaGreatDoor.Cl
open Go.Proofs.YtcbnefjfoeanoaaGreatDoor
open Go.RowKit Go.Shelf
attribute [local go_sem] Oper.semAt_some

/-- These numbers were listed, in memory of the call's own. -/
def ListedO (w : World) (xs : List Int) (e : Ending) (w' : World) : Prop :=
  ∃ a c, e = .returned (.slice a xs.length c) ∧ w'.ownsRow w.heap.size 3 1 (.slice a xs.length c) xs.length (xs.map (Value.int .i64)) ∧ Below w.heap.size w w'
theorem ListedO.over {w0 w w' : World} {xs : List Int} {e : Ending} (h : ListedO w xs e w') (hb : Below w0.heap.size w0 w) : ListedO w0 xs e w' := by
  obtain ⟨a, c, h1, h2, h3⟩ := h
  have hs := hb.size
  exact ⟨a, c, h1, ⟨h2.1, h2.2.imp id fun ⟨g, cap, cur, e, hg, r⟩ => ⟨g, cap, cur, e, by omega, r⟩⟩, hb.trans (h3.mono hs)⟩
theorem ListedO.out {w w' : World} {xs : List Int} {e : Ending} (h : ListedO w xs e w') : ∃ a m c, e = .returned (.slice a m c) ∧ Hid (ListedO w xs (.returned (.slice a m c)) w') := by
  obtain ⟨a, c, rfl, r⟩ := h
  exact ⟨a, xs.length, c, rfl, Lib.hid ⟨a, c, rfl, r⟩⟩
theorem listedO_none {w w' : World} (hb : Below w.heap.size w w') : ListedO w [] (.returned (.slice none 0 0)) w' := ⟨none, 0, rfl, World.ownsRow_nil _ _ _ _, hb⟩
set_option maxRecDepth 100000 in
set_option maxHeartbeats 1000000 in
theorem starts_own (gf : Nat) (lb : Array Value) (C : Nat → Prop) (L : List (Int × Int)) (w : World) (hL : L.length ≤ 1000) (hC : ∀ k, C k → k < w.heap.size) (eg : ∀ args w, (callFunc gf args).run Tryz.prog w = .ok (.enter gf args) w)
    (hs : Gives Tryz.prog gf lb encC w.heap.size C L w) :
    Calls Tryz.prog 136 #[.func (.func gf) #[] lb] w (ListedO w (L.map (·.1))) := by
  obtain ⟨i0, hi, hz0, hz1, hz2⟩ := info_parts info_int1
  have HS : Hid (Gives Tryz.prog gf lb encC w.heap.size C L (w.alloc (.cells #[.slice none 0 0] 22))) := Lib.hid (hs.later ((Below.refl _ _).alloc (Nat.le_refl _) _))
  have HC := Lib.hid hC
  have HE := Lib.hid eg
  clear hs hC eg
  refine (callsIn_wide (n := 1)).1 ?_
  refine callsIn_of_wp_marks Tryz.func136 rfl trivial ?_ rfl
  simp only [Tryz.ntmps136, List.size_toArray, List.length_cons, List.length_nil, Nat.reduceAdd, Nat.reduceSub, Array.replicate_succ, Array.replicate_zero, List.push_toArray, List.append_toArray, List.nil_append, List.cons_append]
  gi_wp2
  refine range_gives (gf := gf) rfl HE.out HS.out (fun _ => rfl) (by simp) (fun _ => False) (fun k h => .inr (HC.out k h)) (fun _ h => h.elim) (Fills w) (fun _ _ _ _ => False) (Fills.bides w) (fun _ _ _ _ _ _ h _ _ _ => h) ?start ?round ?done ?stop
  case start => exact ⟨.slice none 0 0, Boxed.new w _ _, fun h => h, World.ownsRow_nil _ _ _ _, by simp [Value.ownBlock], fun _ h => h.elim, (Below.refl _ _).alloc (Nat.le_refl _) _⟩
  case stop =>
    rintro D c M pre W _ _ _ h _
    exact h.elim
  case done =>
    rintro D M W hD hDW hM ⟨v, hv⟩ hdef
    have hc := hv.box.cell
    have HV := Lib.hid hv
    clear hv
    dsimp only
    gi_wp2
    refine leave_marks [D] W (by simp) (by simpa using hdef) (fun W' h1 h2 h3 h4 h5 => ⟨_, results_tmp rfl _ _ _, ?_⟩)
    have hv := HV.out
    have hrow : W'.ownsRow w.heap.size 3 1 v (L.map (·.1)).length ((L.map (·.1)).map (Value.int .i64)) := by
      have := World.ownsRow.same hv.row (w' := W') (fun g hg _ => h5 g (by simp; rintro rfl; exact hv.off _ hg hM))
      simpa [Function.comp_def] using this
    obtain ⟨a, c, rfl, hr, hc1, hc2⟩ := owns_row hrow
    refine ⟨a, c, rfl, hrow, hv.bel.trans ⟨h1, h2, h3, by omega, fun k hk => h5 k ?_⟩⟩
    simp at hD ⊢
    omega
  case round =>
    intro l M pre x W hl hM hlt hpre hf
    obtain ⟨q, r⟩ := x
    have hlen : pre.length + 1 ≤ 1000 := by have := hpre.length_le; simp at this; omega
    have HF := Lib.hid hf
    have hz := HF.out.elim fun _ h => h.bel.size
    clear hf hpre
    dsimp only [encC]
    gi_wp2
    refine ⟨⟨(Below.refl _ _).alloc hz _, fun i _ hi => Below.heap_alloc _ _ _ hi⟩, fun o => ?_⟩
    obtain ⟨V, hV⟩ : ∃ V, V = (W.alloc (.cells #[.int .i64 q, .int .i64 r] 123)).putObj l o := ⟨_, rfl⟩
    rw [← hV]
    have hb2 : Below w.heap.size W V := by rw [hV]; exact ((Below.refl _ _).alloc hz _).trans (below_turned _ (by simp at hl; omega))
    have hs2 : ∀ i, i < W.heap.size → i ≠ l → V.heap[i]? = W.heap[i]? := fun i hi hn => by rw [hV]; exact (World.putObj_heap_other hn).trans (Below.heap_alloc _ _ _ hi)
    obtain ⟨v, hv⟩ := Fills.bides w M M pre W V HF.out hb2 (fun i hi hn => hs2 i hi (fun e => hn (e ▸ hM))) (fun i hi => .inl hi)
    have e0 : V.cell? ⟨W.heap.size, 0, none⟩ = some (.int .i64 q) := by
      rw [hV, World.cell?_of_block (a := ⟨W.heap.size, 0, none⟩) (World.putObj_heap_other (w := W.alloc _) (k := W.heap.size) (by omega))]
      simp [go_sem]
    have hc := hv.box.cell
    have hzV := hv.bel.size
    have hrow := hv.row
    have HV := Lib.hid hv
    clear hV hb2 hs2 hv
    gi_wp2_with (gi_at_builtin; refine listIn_append_lies _ rfl _ _ 22 rfl w.heap.size 3 i0 (.int .i64 0) 1 8 Tryz.underlying22 hi hz0 hz1 hz2 rfl (by decide) _ _ _ rfl (hrow.alloc _) ⟨V.heap.size, 0, none⟩ 1 1 [.int .i64 q] rfl rfl (cell_one_new _ _ _) (by simp [Value.oneCell']) (by decide) (by unfold maxLen; omega) (by omega) (by simp; omega) (V.heap.size + 1) (by simp) ?_; intro g cap w1 hown hgrow hat _; have hbx := (HV.out.box.alloc _).kept hgrow (HV.out.box.not_row (by decide) HV.out.row); have hc1 := hbx.cell; have hf1 := hbx.frozen)
    exact filled HV.out hown hgrow hat hbx
section
variable (B : Nat) (A : Option Addr) (n c : Nat) (f : Nat → Int × Int) (a : Int) (w : World)
theorem on_own (hn : n ≤ 1000) (hz : Sz w) (hr : PRow w B A n f) (hB : B ≤ w.heap.size) :
    Calls Tryz.prog 158 #[.slice A n c, .int .i64 a] w (ListedO w (onS f n a)) := by
  have HZ := Lib.hid hz
  have HR := Lib.hid hr
  clear hz hr
  cases hM : mayB f n
  · have HM := Lib.hid hM
    have HL := Lib.hid (show onS f n a = [] from if_neg (by rw [hM]; simp))
    clear hM
    go_enter Tryz.func158, Tryz.ntmps158
    go_wp2_with fail
    refine (may_no B _ _ _ _ _ HM.out hn HR.out hB).mono ?_
    rintro e w1 ⟨rfl, hb1⟩
    have HB := Lib.hid hb1
    clear hb1
    go_wp2
    go_ret
    rw [HL.out]
    exact listedO_none HB.out
  have HM := Lib.hid hM
  by_cases h0 : a < 0
  · have HL := Lib.hid (show onS f n a = [] from if_neg (by omega))
    have d0 : decide (a < 0) = true := by simpa using h0
    clear hM h0
    go_enter Tryz.func158, Tryz.ntmps158
    go_wp2_with fail
    refine (may_yes B _ _ _ _ _ HM.out HR.out hB).mono ?_
    rintro e w1 ⟨rfl, hb1⟩
    have HB := Lib.hid hb1
    clear hb1
    go_wp2
    go_ret
    rw [HL.out]
    exact listedO_none HB.out
  by_cases h1 : (n : Int) ≤ a
  · have HL := Lib.hid (show onS f n a = [] from if_neg (by omega))
    have d0 : decide (a < 0) = false := by simpa using h0
    have d1 : decide ((n : Int) ≤ a) = true := by simpa using h1
    clear hM h0 h1
    go_enter Tryz.func158, Tryz.ntmps158
    go_wp2_with fail
    refine (may_yes B _ _ _ _ _ HM.out HR.out hB).mono ?_
    rintro e w1 ⟨rfl, hb1⟩
    have HB := Lib.hid hb1
    clear hb1
    go_wp2
    go_ret
    rw [HL.out]
    exact listedO_none HB.out
  obtain ⟨k, rfl⟩ : ∃ k : Nat, a = k := ⟨a.toNat, by omega⟩
  have hk : k < n := by omega
  have HL := Lib.hid (show onS f n k = (pageL k (numOf (f k)) (roomOf (f k))).map (·.1) by unfold onS; rw [if_pos ⟨hM, by omega, by omega⟩, Int.toNat_natCast])
  have HP := Lib.hid (may_pm hM hk)
  have d0 : decide ((k : Int) < 0) = false := by simp
  have d1 : decide (n ≤ k) = false := by simp; omega
  clear hM h0 h1
  go_enter Tryz.func158, Tryz.ntmps158
  go_wp2_with fail
  refine (may_yes B _ _ _ _ _ HM.out HR.out hB).mono ?_
  rintro e w1 ⟨rfl, hb1⟩
  have HB := Lib.hid hb1
  have HZ1 := Lib.hid (HZ.out.over hb1 HZ.out.pos)
  have HR1 := Lib.hid (HR.out.over hb1 hB)
  have hz1 := hb1.size
  clear hb1
  go_wp2_with fail
  refine (on_any B A n c f k w1 HZ1.out hn hk HP.out HR1.out (by omega)).mono ?_
  rintro e w2 ⟨b0, b1, b2, rfl, ⟨g0, g1, g2⟩, c0, c1, c2, hb2⟩
  have HB2 := Lib.hid (HB.out.trans (hb2.mono hz1))
  have l0 : b0 < w2.heap.size := World.block_lt_of_cell? w2 _ c0
  have l1 : b1 < w2.heap.size := World.block_lt_of_cell? w2 _ c1
  have l2 : b2 < w2.heap.size := World.block_lt_of_cell? w2 _ c2
  have hnr := num_room HP.out
  have HG := Lib.hid (on_gives w2.heap.size k (numOf (f k)) (roomOf (f k)) b0 b1 b2 w2 (by have := (mayB_iff f n).1 HM.out; omega) hnr.1 hnr.2.1 hnr.2.2 c0 c1 c2)
  clear c0 c1 c2 hb2 hnr
  go_wp2_with fail
  refine (starts_own _ _ (fun b => b = b0 ∨ b = b1 ∨ b = b2) _ _ (by rw [pageL_length]; have := (num_room HP.out).1; omega) (by rintro i (rfl | rfl | rfl) <;> assumption) (enters_of Tryz.func163 (by kernel_rfl) rfl) HG.out).mono ?_
  rintro e w3 hl
  obtain ⟨a, m, c, rfl, HL3⟩ := (hl.over HB2.out).out
  clear hl
  go_wp2
  go_ret
  rw [HL.out]
  exact HL3.out
end
end Go.Proofs.YtcbnefjfoeanoaaGreatDoor.Cl
end
section
namespace Go.Proofs.YtcbnefjfoeanoaaGreatDoor
open Go.RowKit
set_option maxRecDepth 100000

/-- The box of what room is taken from. -/
structure Box9 (W : World) (b : Nat) (t : Hs) (u : Nat → Ls.Sl) : Prop where
  box : HBox W b t
  k6 : W.cell? ⟨b, 6, none⟩ = some (.slice (u 0).a (u 0).n (u 0).c)
  k7 : W.cell? ⟨b, 7, none⟩ = some (.slice (u 1).a (u 1).n (u 1).c)
  k8 : W.cell? ⟨b, 8, none⟩ = some (.slice (u 2).a (u 2).n (u 2).c)
  free : ∀ j, W.frozen? ⟨b, j, none⟩ = false
  sl : Slices W b
theorem Box9.same {W W' : World} {b : Nat} {t : Hs} {u : Nat → Ls.Sl} (h : Box9 W b t u) (hs : W'.heap[b]? = W.heap[b]?) (hl : W.heap.size ≤ W'.heap.size) : Box9 W' b t u :=
  ⟨hbox_same h.box hs hl, (World.cell?_of_block (a := ⟨b, 6, none⟩) hs).trans h.k6, (World.cell?_of_block (a := ⟨b, 7, none⟩) hs).trans h.k7, (World.cell?_of_block (a := ⟨b, 8, none⟩) hs).trans h.k8, fun j => (World.frozen?_of_block (a := ⟨b, j, none⟩) hs).trans (h.free j), h.sl.same hs⟩
theorem Box9.next {W W' : World} {b : Nat} {t : Hs} {u : Nat → Ls.Sl} (h : Box9 W b t u) (hb : Below W.heap.size W W') : Box9 W' b t u := h.same (hb.block b h.box.lt) hb.size
/-- One cell is turned. -/
theorem Box9.set {W : World} {b : Nat} {t t' : Hs} {u u' : Nat → Ls.Sl} (h : Box9 W b t u) (k : Nat) (a : Option Addr) (n c : Nat)
    (e0 : Value.slice t'.w.a t'.w.n t'.w.c = if 0 = k then .slice a n c else .slice t.w.a t.w.n t.w.c) (e1 : Value.slice t'.p.a t'.p.n t'.p.c = if 1 = k then .slice a n c else .slice t.p.a t.p.n t.p.c)
    (e2 : Value.slice (t'.u 0).a (t'.u 0).n (t'.u 0).c = if 2 = k then .slice a n c else .slice (t.u 0).a (t.u 0).n (t.u 0).c) (e3 : Value.slice (t'.u 1).a (t'.u 1).n (t'.u 1).c = if 3 = k then .slice a n c else .slice (t.u 1).a (t.u 1).n (t.u 1).c)
    (e4 : Value.slice (t'.u 2).a (t'.u 2).n (t'.u 2).c = if 4 = k then .slice a n c else .slice (t.u 2).a (t.u 2).n (t.u 2).c) (e5 : Value.slice t'.c.a t'.c.n t'.c.c = if 5 = k then .slice a n c else .slice t.c.a t.c.n t.c.c)
    (e6 : Value.slice (u' 0).a (u' 0).n (u' 0).c = if 6 = k then .slice a n c else .slice (u 0).a (u 0).n (u 0).c) (e7 : Value.slice (u' 1).a (u' 1).n (u' 1).c = if 7 = k then .slice a n c else .slice (u 1).a (u 1).n (u 1).c)
    (e8 : Value.slice (u' 2).a (u' 2).n (u' 2).c = if 8 = k then .slice a n c else .slice (u 2).a (u 2).n (u 2).c) : Box9 (W.setCell ⟨b, k, none⟩ (.slice a n c)) b t' u' :=
  ⟨⟨cell_set h.box.c0 e0, cell_set h.box.c1 e1, cell_set h.box.c2 e2, cell_set h.box.c3 e3, cell_set h.box.c4 e4, cell_set h.box.c5 e5, by simpa [World.setCell] using h.box.lt⟩, cell_set h.k6 e6, cell_set h.k7 e7, cell_set h.k8 e8, frozen_set h.free, h.sl.set⟩
def tri3 (a b c : Ls.Sl) : Nat → Ls.Sl := fun | 0 => a | 1 => b | _ => c
/-- Three slices are stored at once. -/
theorem Box9.free3 {W : World} {b : Nat} {t : Hs} {u : Nat → Ls.Sl} (h : Box9 W b t u) (v : Nat → Ls.Sl) : Box9 (((W.setCell ⟨b, 2, none⟩ (.slice (v 0).a (v 0).n (v 0).c)).setCell ⟨b, 3, none⟩ (.slice (v 1).a (v 1).n (v 1).c)).setCell ⟨b, 4, none⟩ (.slice (v 2).a (v 2).n (v 2).c)) b ⟨t.w, t.p, v, t.c⟩ u := by
  have h1 := h.set (t' := ⟨t.w, t.p, tri3 (v 0) (t.u 1) (t.u 2), t.c⟩) (u' := u) 2 (v 0).a (v 0).n (v 0).c rfl rfl rfl rfl rfl rfl rfl rfl rfl
  have h2 := h1.set (t' := ⟨t.w, t.p, tri3 (v 0) (v 1) (t.u 2), t.c⟩) (u' := u) 3 (v 1).a (v 1).n (v 1).c rfl rfl rfl rfl rfl rfl rfl rfl rfl
  exact h2.set (t' := ⟨t.w, t.p, v, t.c⟩) (u' := u) 4 (v 2).a (v 2).n (v 2).c rfl rfl rfl rfl rfl rfl rfl rfl rfl
theorem Box9.cache3 {W : World} {b : Nat} {t : Hs} {u : Nat → Ls.Sl} (h : Box9 W b t u) (v : Nat → Ls.Sl) : Box9 (((W.setCell ⟨b, 6, none⟩ (.slice (v 0).a (v 0).n (v 0).c)).setCell ⟨b, 7, none⟩ (.slice (v 1).a (v 1).n (v 1).c)).setCell ⟨b, 8, none⟩ (.slice (v 2).a (v 2).n (v 2).c)) b t v := by
  have h1 := h.set (t' := t) (u' := tri3 (v 0) (u 1) (u 2)) 6 (v 0).a (v 0).n (v 0).c rfl rfl rfl rfl rfl rfl rfl rfl rfl
  have h2 := h1.set (t' := t) (u' := tri3 (v 0) (v 1) (u 2)) 7 (v 1).a (v 1).n (v 1).c rfl rfl rfl rfl rfl rfl rfl rfl rfl
  exact h2.set (t' := t) (u' := v) 8 (v 2).a (v 2).n (v 2).c rfl rfl rfl rfl rfl rfl rfl rfl rfl
/-- What room is taken from. -/
structure Sto (W : World) (b : Nat) (t : Hs) (u : Nat → Ls.Sl) (d : Hd_) (G : Nat → List Int) : Prop where
  b9 : Box9 W b t u
  hp : Hp W W.heap.size t d
  l3 : Ls.L3 W W.heap.size u G
  pc : t.p.n ≤ t.p.c
theorem Sto.next {W W' : World} {b : Nat} {t : Hs} {u : Nat → Ls.Sl} {d : Hd_} {G : Nat → List Int} (h : Sto W b t u d G) (hb : Below W.heap.size W W') : Sto W' b t u d G := ⟨h.b9.next hb, h.hp.next hb, h.l3.next hb, h.pc⟩
/-- The box is turned, to what lies there already. -/
theorem Sto.turn {W W' : World} {b : Nat} {t t' : Hs} {u u' : Nat → Ls.Sl} {d d' : Hd_} {G G' : Nat → List Int} (h : Sto W b t u d G) (hb : Box9 W' b t' u') (hs : ∀ i, ¬ i = b → W'.heap[i]? = W.heap[i]?) (hl : W.heap.size = W'.heap.size)
    (hp : Hp W W.heap.size t' d') (l3 : Ls.L3 W W.heap.size u' G') (pc : t'.p.n ≤ t'.p.c) : Sto W' b t' u' d' G' :=
  ⟨hb, hp_turn h.b9.sl hp hs hl, l3_turn h.b9.sl l3 hs hl, pc⟩
end Go.Proofs.YtcbnefjfoeanoaaGreatDoor
end
