/-
  HeapWords.
-/
import Derived.Test.YtodpciodongajaaDoorHpAwake
import Derived.Test.YtodpciodongajaaDoorHpWords
import Derived.Test.YtodpciodongajaaDoorPgRefFind
import Derived.Deep.DeepHandedRow
import Derived.Deep.DeepWitnessRowRef
namespace Go.Proofs.YtodpciodongajaaDoor.HeapWords
open Go.Proofs.YtodpciodongajaaDoor
open Go.ChangeShapes Go.WideShapes Go.ChangeAt Go.RowKit
set_option maxRecDepth 100000

theorem words_keep {w W W' : World} {s : Hs} {d : Hd_} {A1 A2 : Option Addr} {n1 n2 bb o : Nat} {xs1 xs2 : List Int} {v : Value}
    (h : (HNow w W s d ∧ Row W W.heap.size A1 n1 xs1 ∧ Row W W.heap.size A2 n2 xs2) ∧ bb < W.heap.size ∧ W.cell? ⟨bb, o, none⟩ = some v) (hb : Below W.heap.size W W') :
    ((HNow w W' s d ∧ Row W' W'.heap.size A1 n1 xs1 ∧ Row W' W'.heap.size A2 n2 xs2) ∧ bb < W'.heap.size ∧ W'.cell? ⟨bb, o, none⟩ = some v) ∧ bb < W'.heap.size ∧ W'.cell? ⟨bb, o, none⟩ = some v ∧ w.heap.size < W'.heap.size ∧ W'.cell? ⟨w.heap.size, 1, none⟩ = some (.slice s.p.a s.p.n s.p.c) := by
  have g := h.1.1.next hb
  have r1 := (h.1.2.1.below hb).more hb.size
  have r2 := (h.1.2.2.below hb).more hb.size
  have hl := Nat.lt_of_lt_of_le h.2.1 hb.size
  have hc := (hb.cell (p := ⟨bb, o, none⟩) h.2.1).trans h.2.2
  exact ⟨⟨⟨g, r1, r2⟩, hl, hc⟩, hl, hc, g.box.lt, g.box.c1⟩
section
variable (s : Hs) (d : Hd_) (A : Option Addr) (m c : Nat) (U : Nat → Nat → Ls.Sl) (F : Nat → Nat → List Int) (w : World)
theorem walk_few (hz : Cl.Sz w) (hf : fewH s = false) (hp : Hp w w.heap.size s d) : Calls Tryd.prog 4 #[(.agg #[.slice s.w.a s.w.n s.w.c, .slice s.p.a s.p.n s.p.c, .slice (s.u 0).a (s.u 0).n (s.u 0).c, .slice (s.u 1).a (s.u 1).n (s.u 1).c, .slice (s.u 2).a (s.u 2).n (s.u 2).c, .slice s.c.a s.c.n s.c.c]), .slice A m c] w fun e w' => e = .returned (.bool true) ∧ Below w.heap.size w w' := by
  have HZ := Lib.hid hz
  have hz0 := hz.pos
  have HP := Lib.hid hp
  have HF := Lib.hid hf
  clear hz hf hp
  go_enter Tryd.func4, Tryd.ntmps4
  go_wp2_with fail
  have b0 := (Below.refl w.heap.size w).alloc (Nat.le_refl _) (.cells #[.slice s.w.a s.w.n s.w.c, .slice s.p.a s.p.n s.p.c, .slice (s.u 0).a (s.u 0).n (s.u 0).c, .slice (s.u 1).a (s.u 1).n (s.u 1).c, .slice (s.u 2).a (s.u 2).n (s.u 2).c, .slice s.c.a s.c.n s.c.c] 28)
  refine (awake_any _ (HZ.out.over b0 hz0)).mono ?_
  rintro e w1 ⟨rfl, hb1⟩
  have N1 := Lib.hid (HNow.mk (d := d) ((HBox.new w s 28).next hb1) (b0.trans (hb1.mono b0.size)) (HP.out.below (b0.trans (hb1.mono b0.size))))
  have q0 := N1.out.box.c0
  have q1 := N1.out.box.c1
  have q2 := N1.out.box.c2
  have q3 := N1.out.box.c3
  have q4 := N1.out.box.c4
  have q5 := N1.out.box.c5
  have ql := N1.out.box.lt
  clear hb1 b0
  go_wp2_with fail
  refine (rfew_any s _).mono ?_
  rw [HF.out]
  rintro e w2 ⟨rfl, hb2⟩
  have N2 := Lib.hid (N1.out.next hb2)
  clear hb2 N1
  clear q0 q1 q2 q3 q4 q5 ql
  go_wp2
  go_ret
  exact ⟨rfl, N2.out.bel⟩
theorem walk_many (hz : Cl.Sz w) (hf : fewH s = true) (hm : 4 < m) (hp : Hp w w.heap.size s d) : Calls Tryd.prog 4 #[(.agg #[.slice s.w.a s.w.n s.w.c, .slice s.p.a s.p.n s.p.c, .slice (s.u 0).a (s.u 0).n (s.u 0).c, .slice (s.u 1).a (s.u 1).n (s.u 1).c, .slice (s.u 2).a (s.u 2).n (s.u 2).c, .slice s.c.a s.c.n s.c.c]), .slice A m c] w fun e w' => e = .returned (.bool true) ∧ Below w.heap.size w w' := by
  have d2 : decide ((4 : Int) < m) = true := by simp; omega
  have HZ := Lib.hid hz
  have hz0 := hz.pos
  have HP := Lib.hid hp
  have HF := Lib.hid hf
  clear hz hf hp
  go_enter Tryd.func4, Tryd.ntmps4
  go_wp2_with fail
  have b0 := (Below.refl w.heap.size w).alloc (Nat.le_refl _) (.cells #[.slice s.w.a s.w.n s.w.c, .slice s.p.a s.p.n s.p.c, .slice (s.u 0).a (s.u 0).n (s.u 0).c, .slice (s.u 1).a (s.u 1).n (s.u 1).c, .slice (s.u 2).a (s.u 2).n (s.u 2).c, .slice s.c.a s.c.n s.c.c] 28)
  refine (awake_any _ (HZ.out.over b0 hz0)).mono ?_
  rintro e w1 ⟨rfl, hb1⟩
  have N1 := Lib.hid (HNow.mk (d := d) ((HBox.new w s 28).next hb1) (b0.trans (hb1.mono b0.size)) (HP.out.below (b0.trans (hb1.mono b0.size))))
  have q0 := N1.out.box.c0
  have q1 := N1.out.box.c1
  have q2 := N1.out.box.c2
  have q3 := N1.out.box.c3
  have q4 := N1.out.box.c4
  have q5 := N1.out.box.c5
  have ql := N1.out.box.lt
  clear hb1 b0
  go_wp2_with fail
  refine (rfew_any s _).mono ?_
  rw [HF.out]
  rintro e w2 ⟨rfl, hb2⟩
  have N2 := Lib.hid (N1.out.next hb2)
  clear hb2 N1
  clear q0 q1 q2 q3 q4 q5 ql
  go_wp2
  go_ret
  exact ⟨rfl, N2.out.bel⟩
theorem walk_not (hz : Cl.Sz w) (hf : fewH s = true) (hm : m ≤ 4) (hp : Hp w w.heap.size s d) (hv : Fit64 d.ws) (hl : Ls.LRow w w.heap.size A m U F) (hlen : (Ls.allOf (ahead d.F F) (1 + m)).length ≤ 2000000) (hr : wholeH s d m F = false) : Calls Tryd.prog 4 #[(.agg #[.slice s.w.a s.w.n s.w.c, .slice s.p.a s.p.n s.p.c, .slice (s.u 0).a (s.u 0).n (s.u 0).c, .slice (s.u 1).a (s.u 1).n (s.u 1).c, .slice (s.u 2).a (s.u 2).n (s.u 2).c, .slice s.c.a s.c.n s.c.c]), .slice A m c] w fun e w' => e = .returned (.bool true) ∧ Below w.heap.size w w' := by
  have HZ := Lib.hid hz
  have hz0 := hz.pos
  have HP := Lib.hid hp
  have HF := Lib.hid hf
  have HFI := Lib.hid (fine_few hf hp hv)
  have HL := Lib.hid hl
  have HLEN := Lib.hid hlen
  have HWH := Lib.hid (fun W (h : HNow w W s d) => pwhole_any s d A m c U F W (h.hp.more h.bel.size) (lrow_more (HL.out.below h.bel) h.bel.size) (by omega) (HZ.out.over h.bel hz0) HFI.out HLEN.out)
  rw [hr] at HWH
  have d2 : decide ((4 : Int) < m) = false := by simp; omega
  clear hz hf hp hv hl hlen hr
  go_enter Tryd.func4, Tryd.ntmps4
  go_wp2_with fail
  have b0 := (Below.refl w.heap.size w).alloc (Nat.le_refl _) (.cells #[.slice s.w.a s.w.n s.w.c, .slice s.p.a s.p.n s.p.c, .slice (s.u 0).a (s.u 0).n (s.u 0).c, .slice (s.u 1).a (s.u 1).n (s.u 1).c, .slice (s.u 2).a (s.u 2).n (s.u 2).c, .slice s.c.a s.c.n s.c.c] 28)
  refine (awake_any _ (HZ.out.over b0 hz0)).mono ?_
  rintro e w1 ⟨rfl, hb1⟩
  have N1 := Lib.hid (HNow.mk (d := d) ((HBox.new w s 28).next hb1) (b0.trans (hb1.mono b0.size)) (HP.out.below (b0.trans (hb1.mono b0.size))))
  have q0 := N1.out.box.c0
  have q1 := N1.out.box.c1
  have q2 := N1.out.box.c2
  have q3 := N1.out.box.c3
  have q4 := N1.out.box.c4
  have q5 := N1.out.box.c5
  have ql := N1.out.box.lt
  clear hb1 b0
  go_wp2_with fail
  refine (rfew_any s _).mono ?_
  rw [HF.out]
  rintro e w2 ⟨rfl, hb2⟩
  have N2 := Lib.hid (N1.out.next hb2)
  clear hb2 N1
  clear q0 q1 q2 q3 q4 q5 ql
  have q0 := N2.out.box.c0
  have q1 := N2.out.box.c1
  have q2 := N2.out.box.c2
  have q3 := N2.out.box.c3
  have q4 := N2.out.box.c4
  have q5 := N2.out.box.c5
  have ql := N2.out.box.lt
  go_wp2_with fail
  refine (HWH.out w2 N2.out).mono ?_
  rintro e w3 ⟨rfl, hb3⟩
  have N3 := Lib.hid (N2.out.next hb3)
  clear hb3 N2
  clear q0 q1 q2 q3 q4 q5 ql
  go_wp2
  go_ret
  exact ⟨rfl, N3.out.bel⟩
set_option maxHeartbeats 4000000 in
theorem walk_all (us ks : List Int) (hus : us = usedL s d) (hks : ks = Ls.allOf (ahead d.F F) (1 + m)) (hz : Cl.Sz w) (hf : fewH s = true) (hm : m ≤ 4) (hp : Hp w w.heap.size s d) (hv : Fit64 d.ws) (hl : Ls.LRow w w.heap.size A m U F) (hlen : (Ls.allOf (ahead d.F F) (1 + m)).length ≤ 2000000) (hr : wholeH s d m F = true) : Calls Tryd.prog 4 #[(.agg #[.slice s.w.a s.w.n s.w.c, .slice s.p.a s.p.n s.p.c, .slice (s.u 0).a (s.u 0).n (s.u 0).c, .slice (s.u 1).a (s.u 1).n (s.u 1).c, .slice (s.u 2).a (s.u 2).n (s.u 2).c, .slice s.c.a s.c.n s.c.c]), .slice A m c] w fun e w' => e = .returned (.bool true) ∧ Below w.heap.size w w' := by
  have HZ := Lib.hid hz
  have hz0 := hz.pos
  have HP := Lib.hid hp
  have HF := Lib.hid hf
  have HFI := Lib.hid (fine_few hf hp hv)
  have HL := Lib.hid hl
  have HLEN := Lib.hid hlen
  have HWH := Lib.hid (fun W (h : HNow w W s d) => pwhole_any s d A m c U F W (h.hp.more h.bel.size) (lrow_more (HL.out.below h.bel) h.bel.size) (by omega) (HZ.out.over h.bel hz0) HFI.out HLEN.out)
  rw [hr] at HWH
  have d2 : decide ((4 : Int) < m) = false := by simp; omega
  have HONE : Hid (∀ (x : Int) (k : Nat), 16 ≤ x → x < 16 + (s.w.n : Int) → x / 16 - 1 = k → us.countP (cov d.f s.p.n x) + ks.countP (cov d.f s.p.n x) + (if Cl.freeB d.f k 1 = true then 1 else 0) = 1) := Lib.hid (fun x k h0 h1 hk => by rw [hus, hks]; exact words_one hr h0 h1 hk)
  have hmay : mayH s d m F = true := ((Bool.and_eq_true _ _ ▸ hr : _ ∧ _)).1
  have hfree := (mayH_all hmay).2.2.1
  have HIU : Hid (∀ y ∈ us, 16 ≤ y ∧ y < 16 + 16 * (s.p.n : Int)) := Lib.hid (fun y hy => allS_in (used_mem (hus ▸ hy)).1)
  have HIK : Hid (∀ y ∈ ks, 16 ≤ y ∧ y < 16 + 16 * (s.p.n : Int)) := Lib.hid (fun y hy => allS_in (free_is hfree (hks ▸ hy)).1)
  have HUL : Hid (us.length ≤ 512) := Lib.hid (by rw [hus]; exact Nat.le_trans (used_len s d) (allS_len d.f s.p.n))
  have HKL : Hid (ks.length ≤ 2000000) := Lib.hid (by rw [hks]; exact hlen)
  have HUS := Lib.hid hus
  have HKS := Lib.hid hks
  have hwn : s.w.n ≤ 130 := (few_parts hf).1
  have hpn : s.p.n ≤ 9 := (few_parts hf).2.1
  have HWN : Hid (s.w.n = 16 * s.p.n) := Lib.hid (by
    have hfb := (mayH_all hmay).1
    unfold firstB at hfb
    simp only [Bool.and_eq_true, decide_eq_true_eq] at hfb
    exact hfb.2.2.1)
  clear hz hf hp hv hl hlen hr hus hks hmay hfree
  go_enter Tryd.func4, Tryd.ntmps4
  go_wp2_with fail
  have b0 := (Below.refl w.heap.size w).alloc (Nat.le_refl _) (.cells #[.slice s.w.a s.w.n s.w.c, .slice s.p.a s.p.n s.p.c, .slice (s.u 0).a (s.u 0).n (s.u 0).c, .slice (s.u 1).a (s.u 1).n (s.u 1).c, .slice (s.u 2).a (s.u 2).n (s.u 2).c, .slice s.c.a s.c.n s.c.c] 28)
  refine (awake_any _ (HZ.out.over b0 hz0)).mono ?_
  rintro e w1 ⟨rfl, hb1⟩
  have N1 := Lib.hid (HNow.mk (d := d) ((HBox.new w s 28).next hb1) (b0.trans (hb1.mono b0.size)) (HP.out.below (b0.trans (hb1.mono b0.size))))
  have q0 := N1.out.box.c0
  have q1 := N1.out.box.c1
  have q2 := N1.out.box.c2
  have q3 := N1.out.box.c3
  have q4 := N1.out.box.c4
  have q5 := N1.out.box.c5
  have ql := N1.out.box.lt
  clear hb1 b0
  go_wp2_with fail
  refine (rfew_any s _).mono ?_
  rw [HF.out]
  rintro e w2 ⟨rfl, hb2⟩
  have N2 := Lib.hid (N1.out.next hb2)
  clear hb2 N1
  clear q0 q1 q2 q3 q4 q5 ql
  have q0 := N2.out.box.c0
  have q1 := N2.out.box.c1
  have q2 := N2.out.box.c2
  have q3 := N2.out.box.c3
  have q4 := N2.out.box.c4
  have q5 := N2.out.box.c5
  have ql := N2.out.box.lt
  go_wp2_with fail
  refine (HWH.out w2 N2.out).mono ?_
  rintro e w3 ⟨rfl, hb3⟩
  have N3 := Lib.hid (N2.out.next hb3)
  clear hb3 N2
  clear q0 q1 q2 q3 q4 q5 ql
  have q0 := N3.out.box.c0
  have q1 := N3.out.box.c1
  have q2 := N3.out.box.c2
  have q3 := N3.out.box.c3
  have q4 := N3.out.box.c4
  have q5 := N3.out.box.c5
  have ql := N3.out.box.lt
  go_wp2_with fail
  refine (pused_any s d w3 (N3.out.hp.more N3.out.bel.size) (HZ.out.over N3.out.bel hz0) HFI.out).mono ?_
  rw [← HUS.out]
  rintro e w4 ⟨v4, rfl, ho4, hb4⟩
  have N4 := Lib.hid (N3.out.next hb4)
  obtain ⟨a4, c4, e4, hk4, _, _⟩ := Ls.owns_row ho4
  simp only [Value.slice.injEq, true_and] at e4
  obtain ⟨rfl, rfl⟩ := e4
  obtain ⟨va, n, vc⟩ := v4
  dsimp only at hk4 ⊢
  have K4 := Lib.hid hk4
  have HN : Hid (us.length = n) := Lib.hid hk4.1
  clear hb4 ho4 hk4 N3
  clear q0 q1 q2 q3 q4 q5 ql
  have q0 := N4.out.box.c0
  have q1 := N4.out.box.c1
  have q2 := N4.out.box.c2
  have q3 := N4.out.box.c3
  have q4 := N4.out.box.c4
  have q5 := N4.out.box.c5
  have ql := N4.out.box.lt
  go_wp2_with (at_builtin; refine list_glue rfl (.tmp 38) (.tmp 39) rfl rfl rfl N4.out.hp.free N4.out.bel.size (HL.out.below N4.out.bel) (by omega) ?_)
  intro A5 cap5 w5 hl5 hb5
  have N5 := Lib.hid (N4.out.next hb5)
  have K5 := Lib.hid ((K4.out.below hb5).more hb5.size)
  have L5 := Lib.hid hl5
  clear hl5 hb5 N4 K4
  clear q0 q1 q2 q3 q4 q5 ql
  go_wp2_with fail
  refine (Ls.rall_any w5.heap.size A5 (1 + m) cap5 _ _ w5 L5.out (Nat.le_refl _) (by omega) HLEN.out).mono ?_
  rw [← HKS.out]
  rintro e w6 ⟨v6, rfl, ho6, hb6⟩
  have N6 := Lib.hid (N5.out.next hb6)
  have K6 := Lib.hid ((K5.out.below hb6).more hb6.size)
  obtain ⟨a6, c6, e6, hk6, _, _⟩ := Ls.owns_row ho6
  simp only [Value.slice.injEq, true_and] at e6
  obtain ⟨rfl, rfl⟩ := e6
  obtain ⟨ua, nk, uc⟩ := v6
  dsimp only at hk6 ⊢
  have HNK : Hid (ks.length = nk) := Lib.hid hk6.1
  have HST : Hid (HNow w w6 s d ∧ Row w6 w6.heap.size va n us ∧ Row w6 w6.heap.size ua nk ks) := Lib.hid ⟨N6.out, K6.out, hk6⟩
  have hn : n ≤ 512 := by have h1 := HN.out; have h2 := HUL.out; omega
  have hnk : nk ≤ 2000000 := by have h1 := HNK.out; have h2 := HKL.out; omega
  clear hb6 ho6 hk6 N5 K5 L5 N6 K6
  go_wp2
  go_loopw [9, 10, 11, 12] (fun aa _ _ _ wr => ∃ x : Int, 16 ≤ x ∧ x ≤ 16 + (s.w.n : Int) ∧ aa = .int .i64 x ∧ Hid (HNow w wr s d ∧ Row wr wr.heap.size va n us ∧ Row wr wr.heap.size ua nk ks)) (fun aa _ _ _ _ => (16 + (s.w.n : Int) - intOf aa).toNat)
  case atStart => exact ⟨16, by omega, by omega, rfl, HST⟩
  case round =>
    obtain ⟨x, hx0, hx1, rfl, HR⟩ := hrel
    clear HST
    have q0 := HR.out.1.box.c0
    have ql := HR.out.1.box.lt
    by_cases hlt : x < 16 + (s.w.n : Int)
    · have d5 : decide (x < 16 + (s.w.n : Int)) = true := decide_eq_true hlt
      obtain ⟨k, hk⟩ : ∃ k : Nat, x / 16 - 1 = k := ⟨(x / 16 - 1).toNat, by omega⟩
      have HO := Lib.hid (HONE.out x k hx0 hlt hk)
      have hkp : k + 1 ≤ s.p.n := by have := HWN.out; omega
      have HK := Lib.hid hk
      clear hk
      obtain ⟨wo, rfl⟩ : ∃ wo : World, wo = wr := ⟨_, rfl⟩
      go_wp2
      clear q0 ql
      go_loopw [10, 11] (fun nn i wi => ∃ q z : Nat, q ≤ n ∧ z ≤ q ∧ nn = .int .i64 z ∧ i = .int .i64 q ∧ Hid (z = (us.take q).countP (cov d.f s.p.n x)) ∧ Hid (HNow w wi s d ∧ Row wi wi.heap.size va n us ∧ Row wi wi.heap.size ua nk ks)) (fun _ i _ => n - (intOf i).toNat)
      case atStart => exact ⟨0, 0, Nat.zero_le _, Nat.le_refl _, rfl, rfl, Lib.hid (by simp), HR⟩
      case round =>
        obtain ⟨q, z, hq, hzq, rfl, rfl, HC, HI⟩ := hrel
        clear HR
        by_cases hltq : q < n
        · have dq : decide ((q : Int) < n) = true := by simp; omega
          have dq2 : decide ((n : Int) ≤ q) = false := by simp; omega
          have dq3 : decide (n ≤ q) = false := by simp; omega
          have iq0 : (0 : Int) ≤ q := by omega
          obtain ⟨bb, off, rfl, hbl, hcell⟩ := HI.out.2.1.2 (by omega)
          obtain ⟨y, hy⟩ : ∃ y, y = us.getD q 0 := ⟨_, rfl⟩
          have hq1 := hcell q hltq
          rw [← hy] at hq1
          have hyin := HIU.out y (by rw [hy]; exact getD_mem (by have := HN.out; omega))
          have HCN := Lib.hid (count_next (p := cov d.f s.p.n x) (xs := us) (q := q) (by have := HN.out; omega))
          rw [← hy] at HCN
          clear hcell hy
          obtain ⟨B, hB⟩ : ∃ B, B = Cl.bg d.f s.p.n y := ⟨_, rfl⟩
          have hB0 : 0 ≤ B ∧ B ≤ 100 := by rw [hB]; exact Cl.bg_nonneg _ _ _
          have hcv : cov d.f s.p.n x y = (decide (y ≤ x) && decide (x < y + B)) := by rw [hB]; rfl
          rw [hcv] at HCN
          have wy : IntKind.i64.wrap (y + B) = y + B := by simp [IntKind.wrap, IntKind.signed, IntKind.bits]; omega
          have p1 := HI.out.1.box.c1
          have pl := HI.out.1.box.lt
          by_cases h1 : y ≤ x
          · have d6 : decide (y ≤ x) = true := decide_eq_true h1
            rw [d6, Bool.true_and] at HCN
            have HBE := Lib.hid (fun W (h : HNow w W s d) => Cl.rbegins_any w.heap.size s.p.a s.p.n s.p.c d.f y W (by omega) h.hp.pages h.bel.size)
            rw [← hB] at HBE
            have HS2 : Hid ((HNow w wr s d ∧ Row wr wr.heap.size (some ⟨bb, off, none⟩) n us ∧ Row wr wr.heap.size ua nk ks) ∧ bb < wr.heap.size ∧ wr.cell? ⟨bb, off + q, none⟩ = some (.int .i64 y)) := Lib.hid ⟨HI.out, hbl, hq1⟩
            clear hB hcv h1 hbl hq1 p1 pl HI
            have key : ∀ b : Bool, decide (x < y + B) = b → True := fun _ _ => trivial
            cases d7 : decide (x < y + B)
            all_goals rw [d7] at HCN
            all_goals clear key
            · go_wp2_with fail
              go_region_held3 (fun W => ((HNow w W s d ∧ Row W W.heap.size (some ⟨bb, off, none⟩) n us ∧ Row W W.heap.size ua nk ks) ∧ bb < W.heap.size ∧ W.cell? ⟨bb, off + q, none⟩ = some (.int .i64 y)) ∧ bb < W.heap.size ∧ W.cell? ⟨bb, off + q, none⟩ = some (.int .i64 y) ∧ w.heap.size < W.heap.size ∧ W.cell? ⟨w.heap.size, 1, none⟩ = some (.slice s.p.a s.p.n s.p.c)) (first
                | exact words_keep HS2.out (below_drawn' (Below.refl _ _) 1)
                | exact words_keep (‹((HNow w _ s d ∧ _) ∧ _) ∧ _›).1 ‹Below _ _ _›) (first
                | ((go_at_call 21; refine (HBE.out _ (‹((HNow w _ s d ∧ _) ∧ _) ∧ _›).1.1.1).mono ?_; rintro e' w8 ⟨rfl, hb8⟩)))
              have HE := Lib.hid (‹((HNow w w8 s d ∧ _) ∧ _) ∧ _›).1.1
              clear HS2
              go_wp2
              go_roundw
              case rel => exact ⟨q + 1, z, by omega, by omega, rfl, by go_num, Lib.hid (by have h1 := HC.out; have h2 := HCN.out; rw [if_neg (by decide)] at h2; omega), HE⟩
              case measure => simp [intOf]; omega
            · go_wp2_with fail
              go_region_held3 (fun W => ((HNow w W s d ∧ Row W W.heap.size (some ⟨bb, off, none⟩) n us ∧ Row W W.heap.size ua nk ks) ∧ bb < W.heap.size ∧ W.cell? ⟨bb, off + q, none⟩ = some (.int .i64 y)) ∧ bb < W.heap.size ∧ W.cell? ⟨bb, off + q, none⟩ = some (.int .i64 y) ∧ w.heap.size < W.heap.size ∧ W.cell? ⟨w.heap.size, 1, none⟩ = some (.slice s.p.a s.p.n s.p.c)) (first
                | exact words_keep HS2.out (below_drawn' (Below.refl _ _) 1)
                | exact words_keep (‹((HNow w _ s d ∧ _) ∧ _) ∧ _›).1 ‹Below _ _ _›) (first
                | ((go_at_call 21; refine (HBE.out _ (‹((HNow w _ s d ∧ _) ∧ _) ∧ _›).1.1.1).mono ?_; rintro e' w8 ⟨rfl, hb8⟩)))
              have HE := Lib.hid (‹((HNow w w8 s d ∧ _) ∧ _) ∧ _›).1.1
              clear HS2
              go_wp2
              go_roundw
              case rel => exact ⟨q + 1, z + 1, by omega, by omega, by go_num, by go_num, Lib.hid (by have h1 := HC.out; have h2 := HCN.out; rw [if_pos trivial] at h2; omega), HE⟩
              case measure => simp [intOf]; omega
          · have d6 : decide (y ≤ x) = false := decide_eq_false h1
            rw [d6, Bool.false_and] at HCN
            clear h1 hB hcv
            go_wp2
            go_quiet (fail)
            have HI2 : Hid (HNow w (wr.drewN nq) s d ∧ Row (wr.drewN nq) (wr.drewN nq).heap.size (some ⟨bb, off, none⟩) n us ∧ Row (wr.drewN nq) (wr.drewN nq).heap.size ua nk ks) := Lib.hid ⟨HI.out.1.next (below_drawn' (Below.refl _ _) nq), HI.out.2.1, HI.out.2.2⟩
            go_wp2
            go_roundw
            case rel => exact ⟨q + 1, z, by omega, by omega, rfl, by go_num, Lib.hid (by have h1 := HC.out; have h2 := HCN.out; rw [if_neg (by decide)] at h2; omega), HI2⟩
            case measure => simp [intOf]; omega
        · obtain rfl : n = q := by omega
          have dq : decide ((n : Int) < n) = false := by simp
          have HZ1 : Hid (z = us.countP (cov d.f s.p.n x)) := Lib.hid (by have h1 := HC.out; rw [List.take_of_length_le (by have := HN.out; omega)] at h1; exact h1)
          obtain ⟨z1, rfl⟩ : ∃ z1, z1 = z := ⟨_, rfl⟩
          have HI1 := HI
          clear HC HI
          obtain ⟨wo2, rfl⟩ : ∃ wo2 : World, wo2 = wr := ⟨_, rfl⟩
          go_wp2
          go_loopw [10, 12] (fun nn i wi => ∃ q z : Nat, q ≤ nk ∧ z ≤ 512 + q ∧ nn = .int .i64 z ∧ i = .int .i64 q ∧ Hid (z = z1 + (ks.take q).countP (cov d.f s.p.n x)) ∧ Hid (HNow w wi s d ∧ Row wi wi.heap.size va n us ∧ Row wi wi.heap.size ua nk ks)) (fun _ i _ => nk - (intOf i).toNat)
          case atStart => exact ⟨0, z1, Nat.zero_le _, by omega, rfl, rfl, Lib.hid (by simp), HI1⟩
          case round =>
            obtain ⟨q, z, hq, hzq, rfl, rfl, HC, HI⟩ := hrel
            clear HI1
            by_cases hltq : q < nk
            · have dq : decide ((q : Int) < nk) = true := by simp; omega
              have dq2 : decide ((nk : Int) ≤ q) = false := by simp; omega
              have dq3 : decide (nk ≤ q) = false := by simp; omega
              have iq0 : (0 : Int) ≤ q := by omega
              obtain ⟨bb, off, rfl, hbl, hcell⟩ := HI.out.2.2.2 (by omega)
              obtain ⟨y, hy⟩ : ∃ y, y = ks.getD q 0 := ⟨_, rfl⟩
              have hq1 := hcell q hltq
              rw [← hy] at hq1
              have hyin := HIK.out y (by rw [hy]; exact getD_mem (by have := HNK.out; omega))
              have HCN := Lib.hid (count_next (p := cov d.f s.p.n x) (xs := ks) (q := q) (by have := HNK.out; omega))
              rw [← hy] at HCN
              clear hcell hy
              obtain ⟨B, hB⟩ : ∃ B, B = Cl.bg d.f s.p.n y := ⟨_, rfl⟩
              have hB0 : 0 ≤ B ∧ B ≤ 100 := by rw [hB]; exact Cl.bg_nonneg _ _ _
              have hcv : cov d.f s.p.n x y = (decide (y ≤ x) && decide (x < y + B)) := by rw [hB]; rfl
              rw [hcv] at HCN
              have wy : IntKind.i64.wrap (y + B) = y + B := by simp [IntKind.wrap, IntKind.signed, IntKind.bits]; omega
              have p1 := HI.out.1.box.c1
              have pl := HI.out.1.box.lt
              by_cases h1 : y ≤ x
              · have d6 : decide (y ≤ x) = true := decide_eq_true h1
                rw [d6, Bool.true_and] at HCN
                have HBE := Lib.hid (fun W (h : HNow w W s d) => Cl.rbegins_any w.heap.size s.p.a s.p.n s.p.c d.f y W (by omega) h.hp.pages h.bel.size)
                rw [← hB] at HBE
                have HS2 : Hid ((HNow w wr s d ∧ Row wr wr.heap.size va n us ∧ Row wr wr.heap.size (some ⟨bb, off, none⟩) nk ks) ∧ bb < wr.heap.size ∧ wr.cell? ⟨bb, off + q, none⟩ = some (.int .i64 y)) := Lib.hid ⟨HI.out, hbl, hq1⟩
                clear hB hcv h1 hbl hq1 p1 pl HI
                have key : ∀ b : Bool, decide (x < y + B) = b → True := fun _ _ => trivial
                cases d7 : decide (x < y + B)
                all_goals rw [d7] at HCN
                all_goals clear key
                · go_wp2_with fail
                  go_region_held3 (fun W => ((HNow w W s d ∧ Row W W.heap.size va n us ∧ Row W W.heap.size (some ⟨bb, off, none⟩) nk ks) ∧ bb < W.heap.size ∧ W.cell? ⟨bb, off + q, none⟩ = some (.int .i64 y)) ∧ bb < W.heap.size ∧ W.cell? ⟨bb, off + q, none⟩ = some (.int .i64 y) ∧ w.heap.size < W.heap.size ∧ W.cell? ⟨w.heap.size, 1, none⟩ = some (.slice s.p.a s.p.n s.p.c)) (first
                    | exact words_keep HS2.out (below_drawn' (Below.refl _ _) 1)
                    | exact words_keep (‹((HNow w _ s d ∧ _) ∧ _) ∧ _›).1 ‹Below _ _ _›) (first
                    | ((go_at_call 21; refine (HBE.out _ (‹((HNow w _ s d ∧ _) ∧ _) ∧ _›).1.1.1).mono ?_; rintro e' w8 ⟨rfl, hb8⟩)))
                  have HE := Lib.hid (‹((HNow w w8 s d ∧ _) ∧ _) ∧ _›).1.1
                  clear HS2
                  go_wp2
                  go_roundw
                  case rel => exact ⟨q + 1, z, by omega, by omega, rfl, by go_num, Lib.hid (by have h1 := HC.out; have h2 := HCN.out; rw [if_neg (by decide)] at h2; omega), HE⟩
                  case measure => simp [intOf]; omega
                · go_wp2_with fail
                  go_region_held3 (fun W => ((HNow w W s d ∧ Row W W.heap.size va n us ∧ Row W W.heap.size (some ⟨bb, off, none⟩) nk ks) ∧ bb < W.heap.size ∧ W.cell? ⟨bb, off + q, none⟩ = some (.int .i64 y)) ∧ bb < W.heap.size ∧ W.cell? ⟨bb, off + q, none⟩ = some (.int .i64 y) ∧ w.heap.size < W.heap.size ∧ W.cell? ⟨w.heap.size, 1, none⟩ = some (.slice s.p.a s.p.n s.p.c)) (first
                    | exact words_keep HS2.out (below_drawn' (Below.refl _ _) 1)
                    | exact words_keep (‹((HNow w _ s d ∧ _) ∧ _) ∧ _›).1 ‹Below _ _ _›) (first
                    | ((go_at_call 21; refine (HBE.out _ (‹((HNow w _ s d ∧ _) ∧ _) ∧ _›).1.1.1).mono ?_; rintro e' w8 ⟨rfl, hb8⟩)))
                  have HE := Lib.hid (‹((HNow w w8 s d ∧ _) ∧ _) ∧ _›).1.1
                  clear HS2
                  go_wp2
                  go_roundw
                  case rel => exact ⟨q + 1, z + 1, by omega, by omega, by go_num, by go_num, Lib.hid (by have h1 := HC.out; have h2 := HCN.out; rw [if_pos trivial] at h2; omega), HE⟩
                  case measure => simp [intOf]; omega
              · have d6 : decide (y ≤ x) = false := decide_eq_false h1
                rw [d6, Bool.false_and] at HCN
                clear h1 hB hcv
                go_wp2
                go_quiet (fail)
                have HI2 : Hid (HNow w (wr.drewN nq) s d ∧ Row (wr.drewN nq) (wr.drewN nq).heap.size va n us ∧ Row (wr.drewN nq) (wr.drewN nq).heap.size (some ⟨bb, off, none⟩) nk ks) := Lib.hid ⟨HI.out.1.next (below_drawn' (Below.refl _ _) nq), HI.out.2.1, HI.out.2.2⟩
                go_wp2
                go_roundw
                case rel => exact ⟨q + 1, z, by omega, by omega, rfl, by go_num, Lib.hid (by have h1 := HC.out; have h2 := HCN.out; rw [if_neg (by decide)] at h2; omega), HI2⟩
                case measure => simp [intOf]; omega
            · obtain rfl : nk = q := by omega
              have dq : decide ((nk : Int) < nk) = false := by simp
              have HZ2 : Hid (z = z1 + ks.countP (cov d.f s.p.n x)) := Lib.hid (by have h1 := HC.out; rw [List.take_of_length_le (by have := HNK.out; omega)] at h1; exact h1)
              have p1 := HI.out.1.box.c1
              have pl := HI.out.1.box.lt
              have hk := HK.out
              have HFR := Lib.hid (fun W (h : HNow w W s d) => Cl.rfree_any w.heap.size s.p.a s.p.n s.p.c d.f k 1 W (by omega) hkp h.hp.pages)
              clear HC
              cases hfb : Cl.freeB d.f k 1
              · have hz1 : z = 1 := by have h1 := HO.out; have h2 := HZ1.out; have h3 := HZ2.out; rw [hfb, if_neg (by decide)] at h1; omega
                subst hz1
                rw [hfb] at HFR
                clear hfb
                go_wp2_with fail
                refine (HFR.out _ HI.out.1).mono ?_
                rintro e' w8 ⟨rfl, rfl⟩
                clear p1 pl hk
                go_wp2
                go_roundw
                case rel => exact ⟨x + 1, by omega, by omega, by go_num, HI⟩
                case measure => simp [intOf]; omega
              · have hz1 : z = 0 := by have h1 := HO.out; have h2 := HZ1.out; have h3 := HZ2.out; rw [hfb, if_pos rfl] at h1; omega
                subst hz1
                rw [hfb] at HFR
                clear hfb
                go_wp2_with fail
                refine (HFR.out _ HI.out.1).mono ?_
                rintro e' w8 ⟨rfl, rfl⟩
                clear p1 pl hk
                go_wp2
                go_roundw
                case rel => exact ⟨x + 1, by omega, by omega, by go_num, HI⟩
                case measure => simp [intOf]; omega
    · have d5 : decide (x < 16 + (s.w.n : Int)) = false := decide_eq_false hlt
      go_wp2
      go_ret
      exact ⟨rfl, HR.out.1.bel⟩
end
theorem walk (s : Hs) (d : Hd_) (A : Option Addr) (m c : Nat) (U : Nat → Nat → Ls.Sl) (F : Nat → Nat → List Int) (w : World) (hz : Cl.Sz w) (hp : Hp w w.heap.size s d) (hv : Fit64 d.ws) (hl : Ls.LRow w w.heap.size A m U F) (_ : m ≤ maxLen) (_ : m ≤ c) (_ : c ≤ maxLen)
    (hb : (s.u 0).n + (s.u 1).n + (s.u 2).n + (Ls.allOf F m).length ≤ 1048576) :
    Calls Tryd.prog 4 #[(.agg #[.slice s.w.a s.w.n s.w.c, .slice s.p.a s.p.n s.p.c, .slice (s.u 0).a (s.u 0).n (s.u 0).c, .slice (s.u 1).a (s.u 1).n (s.u 1).c, .slice (s.u 2).a (s.u 2).n (s.u 2).c, .slice s.c.a s.c.n s.c.c]), .slice A m c] w fun e w' => e = .returned (.bool true) ∧ Below w.heap.size w w' := by
  have hlen : (Ls.allOf (ahead d.F F) (1 + m)).length ≤ 2000000 := by
    have e0 := hp.free.len 0 (by decide)
    have e1 := hp.free.len 1 (by decide)
    have e2 := hp.free.len 2 (by decide)
    rw [ahead_len, upTo3]
    omega
  cases hf : fewH s
  · exact walk_few s d A m c w hz hf hp
  · by_cases hm : 4 < m
    · exact walk_many s d A m c w hz hf hm hp
    · cases hr : wholeH s d m F
      · exact walk_not s d A m c U F w hz hf (by omega) hp hv hl hlen hr
      · exact walk_all s d A m c U F w _ _ rfl rfl hz hf (by omega) hp hv hl hlen hr
-- the frame (hpframe.py)
set_option maxRecDepth 100000 in
theorem lifted (os : Os) (started : os.Started) (H : Type) (enc : TypeId × Value → H) (F : Stop.Interp) :
    ReturnsInHanded {} Tryd.checked os 4 .any ((Rows.OpenSpec.upto Rows.heapWordsSpec).preRow enc Tryd.prog Tryd.f4 Rows.heapWordsUptoRow.domain false Rows.heapWordsUptoRow.laid) (((Rows.OpenSpec.upto Rows.heapWordsSpec).at F).post enc Tryd.prog Tryd.f4 false true false false) := by
  obtain ⟨places, hx⟩ : ∃ places, DataW.whole enc Tryd.prog ((World.doorLaid Tryd.prog 400 os).forCall (fun _ _ => 0) ⟨#[], #[.agg #[.slice none 0 0, .slice none 0 0, .slice none 0 0, .slice none 0 0, .slice none 0 0, .slice none 0 0], .slice none 0 0], []⟩).memory Tryd.f4.params.toList Rows.heapWordsSpec.vars false (#[.agg #[.slice none 0 0, .slice none 0 0, .slice none 0 0, .slice none 0 0, .slice none 0 0, .slice none 0 0], .slice none 0 0] : Array Value).toList 8 = some ([.agg [.nil, .nil, .agg [.nil, .nil, .nil], .nil], .nil], [], places) := ⟨[], by kernel_rfl⟩
  refine returnsInHanded_of_row (C := Tryd.checked) (s := Rows.OpenSpec.upto Rows.heapWordsSpec) own started (by kernel_rfl) Tryd.func4
    (witness_row_atRef (enc := enc) (C := Tryd.checked) false (World.doorLaid Tryd.prog 400 os) #[.agg #[.slice none 0 0, .slice none 0 0, .slice none 0 0, .slice none 0 0, .slice none 0 0, .slice none 0 0], .slice none 0 0] rfl (by kernel_rfl) (by kernel_rfl) (by kernel_rfl)
      (OpenSpec.preRow_of_cond 8 hx (by kernel_rfl) (fun k hk => by cases hk; kernel_rfl) (by kernel_rfl) (door_met os _))) ?_
  intro W base args ds gs before hval0 hW _ hk0 _ hL _ _
  have hval : ∀ (j : Nat) t v, Tryd.f4.params[j]? = some t → args[j]? = some v → Value.okWide Tryd.prog W .any base t v := hval0
  have hW' := hW
  obtain ⟨p, q, hA0, hV, rfl, hfz, hnd⟩ := hW
  have hA : DataW.TrodAll enc Tryd.prog W 0 (fun _ => true) true Tryd.f4.params.toList args.toList ds p := hA0
  rw [Tryd.params4] at hA hval
  obtain ⟨v0, vs0, d0, ds0, p0, q0, hargs, rfl, rfl, h0, r0⟩ := trodAll_cons hA
  obtain ⟨v1, vs1, d1, ds1, p1, q1, rfl, rfl, rfl, h1, r1⟩ := trodAll_cons r0
  obtain ⟨rfl, rfl, rfl⟩ := trodAll_nil r1
  obtain rfl : args = #[v0, v1] := by cases args; simp_all
  obtain ⟨rfl, rfl⟩ := trodVars_none hV
  have k0 := h0
  have lt0 : ∀ x ∈ p0, x.block < W.heap.size := by obtain ⟨m, hm⟩ := k0; exact DataW.trod_lt m _ _ _ hm
  obtain ⟨s0, z0, rfl, w0, f0, b0⟩ := heap_of (hval 0 28 v0 rfl rfl) h0
  have k1 := h1
  have lt1 : ∀ x ∈ p1, x.block < W.heap.size := by obtain ⟨m, hm⟩ := k1; exact DataW.trod_lt m _ _ _ hm
  obtain ⟨a1, len1, cap1, rfl⟩ := okWide_slice Tryd.underlying29 (hval 1 29 v1 rfl rfl)
  obtain ⟨u1, z1, w1, m1, b1⟩ := rows_of h1
  have c1 := cap_of h1
  have hb : (s0.u 0).n + (s0.u 1).n + (s0.u 2).n + (Ls.allOf z1 len1).length ≤ 1048576 := by
    have h := of_decide_eq_true (hk0 _ rfl)
    simp only [Rows.uptoBulkAll, List.append_nil] at h
    omega
  clear hk0
  clear hA0 hval0
  refine (walk s0 z0 a1 len1 cap1 u1 z1 W (of_laid hL) w0 f0 w1 m1 c1.1 c1.2 hb).mono fun e W' ⟨he, bel⟩ => ?_
  subst he
  exact ⟨_, rfl, _, _, _, [], _, [], hW', trodAll_mk1 (shut_bool Tryd.underlying4 _), (trodAll_cons_mk (Below.trod laidOut (by kernel_rfl) (of_decide_eq_true (by kernel_rfl)) k0 bel lt0) (trodAll_cons_mk (Below.trod laidOut (by kernel_rfl) (of_decide_eq_true (by kernel_rfl)) k1 bel lt1) trodAll_mk0)), rfl, bel.frame _, fun h => by cases h⟩

theorem over : Rows.HeapWordsUptoSaid :=
  OpenClaim.holds_of_cond 4 Tryd.f4 rfl rfl rfl rfl rfl rfl rfl ⟨rfl, rfl, rfl, rfl, rfl⟩ rfl rfl rfl rfl rfl (by kernel_rfl) Tryd.func4 (by kernel_rfl)
    (of_decide_eq_true (by kernel_rfl)) (by unfold Func.isWrapper; first | (rw [if_pos (by decide +kernel)]; kernel_rfl) | (rw [if_neg (by decide +kernel)]; exact ⟨rfl, rfl⟩))
    (fun os started H enc _ F => by rw [OpenClaim.pre_eq_preRow]; exact lifted os started H enc F)

/-- The statement: the card. -/
theorem proved : Rows.HeapWordsUptoCardSaid :=
  Claim7.holds_tied_plain_at .later [] [.data] true Rows.heapWordsUptoCard.stood.harness false
    over (fun _ h => by cases h) (by kernel_rfl) (fun _ h => by cases h) heapWordsUpto_row_tie rfl ⟨rfl, rfl⟩ (by kernel_rfl) rfl
    (fun f fn hf hfn => by
      obtain rfl : f = 4 := Option.some.inj ((show Tryd.prog.funcNamed "ragpicker/ragpickerlaw07.HeapWords" = some 4 by kernel_rfl).symm.trans hf) |>.symm
      obtain rfl : fn = Tryd.f4 := (Option.some.inj (Tryd.func4.symm.trans hfn)).symm
      exact ⟨by kernel_rfl, fun j t ht => by
        rw [Tryd.params4] at ht
        have hm : t ∈ [28, 29] := by simpa using Array.mem_of_getElem? ht
        have hall : ([28, 29].all fun u => !Tryd.prog.wantsStandIn u) = true := by kernel_rfl
        exact (show Tryd.prog.wantsStandIn t = false by simpa using List.all_eq_true.1 hall t hm)⟩)
    (by kernel_rfl)
#print axioms proved
end Go.Proofs.YtodpciodongajaaDoor.HeapWords
