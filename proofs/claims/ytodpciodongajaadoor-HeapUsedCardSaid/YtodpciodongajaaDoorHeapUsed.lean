/-
  HeapUsed.
-/
import Derived.Test.YtodpciodongajaaDoorHpIns
import Derived.Test.YtodpciodongajaaDoorHpAwake
import Derived.Test.YtodpciodongajaaDoorHpObj
namespace Go.Proofs.YtodpciodongajaaDoor.HeapUsed
open Go.Proofs.YtodpciodongajaaDoor
open Go.ChangeShapes Go.WideShapes Go.ChangeAt Go.RowKit
set_option maxRecDepth 100000

section
variable (s : Hs) (d : Hd_) (w : World)
theorem walk_few (hz : Cl.Sz w) (hf : fewH s = false) (hp : Hp w w.heap.size s d) : Calls Tryd.prog 7 #[(.agg #[.slice s.w.a s.w.n s.w.c, .slice s.p.a s.p.n s.p.c, .slice (s.u 0).a (s.u 0).n (s.u 0).c, .slice (s.u 1).a (s.u 1).n (s.u 1).c, .slice (s.u 2).a (s.u 2).n (s.u 2).c, .slice s.c.a s.c.n s.c.c])] w fun e w' => e = .returned (.bool true) ∧ Below w.heap.size w w' := by
  have HZ := Lib.hid hz
  have hz0 := hz.pos
  have HP := Lib.hid hp
  have HF := Lib.hid hf
  clear hz hf hp
  go_enter Tryd.func7, Tryd.ntmps7
  go_wp2_with fail
  have b0 := (Below.refl w.heap.size w).alloc (Nat.le_refl _) (.cells #[.slice s.w.a s.w.n s.w.c, .slice s.p.a s.p.n s.p.c, .slice (s.u 0).a (s.u 0).n (s.u 0).c, .slice (s.u 1).a (s.u 1).n (s.u 1).c, .slice (s.u 2).a (s.u 2).n (s.u 2).c, .slice s.c.a s.c.n s.c.c] 28)
  refine (awake_any _ (HZ.out.over b0 hz0)).mono ?_
  rintro e w1 ⟨rfl, hb1⟩
  have N1 := Lib.hid (HNow.mk (d := d) ((HBox.new w s 28).next hb1) (b0.trans (hb1.mono b0.size)) (HP.out.below (b0.trans (hb1.mono b0.size))))
  have q0 := N1.out.box.c0
  have q1 := N1.out.box.c1
  have q2 := N1.out.box.c2
  have q3 := N1.out.box.c3
  have q4 := N1.out.box.c4
  have q5 := N1.out.box.c5
  have ql := N1.out.box.lt
  clear hb1 b0
  go_wp2_with fail
  refine (rfew_any s _).mono ?_
  rw [HF.out]
  rintro e w2 ⟨rfl, hb2⟩
  have N2 := Lib.hid (N1.out.next hb2)
  clear hb2 N1 q0 q1 q2 q3 q4 q5 ql
  go_wp2
  go_ret
  exact ⟨rfl, N2.out.bel⟩
theorem walk_may (hz : Cl.Sz w) (hf : fewH s = true) (hm : mayB0 s d = false) (hp : Hp w w.heap.size s d) (hv : Fit64 d.ws) : Calls Tryd.prog 7 #[(.agg #[.slice s.w.a s.w.n s.w.c, .slice s.p.a s.p.n s.p.c, .slice (s.u 0).a (s.u 0).n (s.u 0).c, .slice (s.u 1).a (s.u 1).n (s.u 1).c, .slice (s.u 2).a (s.u 2).n (s.u 2).c, .slice s.c.a s.c.n s.c.c])] w fun e w' => e = .returned (.bool true) ∧ Below w.heap.size w w' := by
  have HZ := Lib.hid hz
  have hz0 := hz.pos
  have HP := Lib.hid hp
  have HF := Lib.hid hf
  have HM := Lib.hid hm
  have HFI := Lib.hid (fine_few hf hp hv)
  clear hz hf hp hm hv
  go_enter Tryd.func7, Tryd.ntmps7
  go_wp2_with fail
  have b0 := (Below.refl w.heap.size w).alloc (Nat.le_refl _) (.cells #[.slice s.w.a s.w.n s.w.c, .slice s.p.a s.p.n s.p.c, .slice (s.u 0).a (s.u 0).n (s.u 0).c, .slice (s.u 1).a (s.u 1).n (s.u 1).c, .slice (s.u 2).a (s.u 2).n (s.u 2).c, .slice s.c.a s.c.n s.c.c] 28)
  refine (awake_any _ (HZ.out.over b0 hz0)).mono ?_
  rintro e w1 ⟨rfl, hb1⟩
  have N1 := Lib.hid (HNow.mk (d := d) ((HBox.new w s 28).next hb1) (b0.trans (hb1.mono b0.size)) (HP.out.below (b0.trans (hb1.mono b0.size))))
  have q0 := N1.out.box.c0
  have q1 := N1.out.box.c1
  have q2 := N1.out.box.c2
  have q3 := N1.out.box.c3
  have q4 := N1.out.box.c4
  have q5 := N1.out.box.c5
  have ql := N1.out.box.lt
  clear hb1 b0
  go_wp2_with fail
  refine (rfew_any s _).mono ?_
  rw [HF.out]
  rintro e w2 ⟨rfl, hb2⟩
  have N2 := Lib.hid (N1.out.next hb2)
  clear hb2 N1 q0 q1 q2 q3 q4 q5 ql
  have q0 := N2.out.box.c0
  have q1 := N2.out.box.c1
  have q2 := N2.out.box.c2
  have q3 := N2.out.box.c3
  have q4 := N2.out.box.c4
  have q5 := N2.out.box.c5
  have ql := N2.out.box.lt
  go_wp2_with fail
  refine (pmay0_any s d w2 (N2.out.hp.more N2.out.bel.size) (HZ.out.over N2.out.bel hz0) HFI.out).mono ?_
  rw [HM.out]
  rintro e w3 ⟨rfl, hb3⟩
  have N3 := Lib.hid (N2.out.next hb3)
  clear hb3 N2 q0 q1 q2 q3 q4 q5 ql
  go_wp2
  go_ret
  exact ⟨rfl, N3.out.bel⟩
set_option maxHeartbeats 1000000 in
theorem walk_all (us : List Int) (hus : us = usedL s d) (hz : Cl.Sz w) (hf : fewH s = true) (hm : mayB0 s d = true) (hp : Hp w w.heap.size s d) (hv : Fit64 d.ws) : Calls Tryd.prog 7 #[(.agg #[.slice s.w.a s.w.n s.w.c, .slice s.p.a s.p.n s.p.c, .slice (s.u 0).a (s.u 0).n (s.u 0).c, .slice (s.u 1).a (s.u 1).n (s.u 1).c, .slice (s.u 2).a (s.u 2).n (s.u 2).c, .slice s.c.a s.c.n s.c.c])] w fun e w' => e = .returned (.bool true) ∧ Below w.heap.size w w' := by
  have HZ := Lib.hid hz
  have hz0 := hz.pos
  have HP := Lib.hid hp
  have HF := Lib.hid hf
  have HM := Lib.hid hm
  have HFI := Lib.hid (fine_few hf hp hv)
  have HUS := Lib.hid hus
  have HUL : Hid (us.length ≤ 512) := Lib.hid (by rw [hus]; exact Nat.le_trans (used_len s d) (allS_len d.f s.p.n))
  have hwn : s.w.n ≤ 130 := (few_parts hf).1
  have HHD := Lib.hid (used_head hm)
  rw [← hus] at HHD
  have HRI : Hid (us.Pairwise (· < ·)) := Lib.hid (hus ▸ used_rise s d)
  have HIN : Hid (∀ x ∈ us, x < 20 + (s.w.n : Int)) := Lib.hid (fun x hx => by have := used_in (hus ▸ hx); omega)
  clear hz hf hp hm hv hus
  go_enter Tryd.func7, Tryd.ntmps7
  go_wp2_with fail
  have b0 := (Below.refl w.heap.size w).alloc (Nat.le_refl _) (.cells #[.slice s.w.a s.w.n s.w.c, .slice s.p.a s.p.n s.p.c, .slice (s.u 0).a (s.u 0).n (s.u 0).c, .slice (s.u 1).a (s.u 1).n (s.u 1).c, .slice (s.u 2).a (s.u 2).n (s.u 2).c, .slice s.c.a s.c.n s.c.c] 28)
  refine (awake_any _ (HZ.out.over b0 hz0)).mono ?_
  rintro e w1 ⟨rfl, hb1⟩
  have N1 := Lib.hid (HNow.mk (d := d) ((HBox.new w s 28).next hb1) (b0.trans (hb1.mono b0.size)) (HP.out.below (b0.trans (hb1.mono b0.size))))
  have q0 := N1.out.box.c0
  have q1 := N1.out.box.c1
  have q2 := N1.out.box.c2
  have q3 := N1.out.box.c3
  have q4 := N1.out.box.c4
  have q5 := N1.out.box.c5
  have ql := N1.out.box.lt
  clear hb1 b0
  go_wp2_with fail
  refine (rfew_any s _).mono ?_
  rw [HF.out]
  rintro e w2 ⟨rfl, hb2⟩
  have N2 := Lib.hid (N1.out.next hb2)
  clear hb2 N1 q0 q1 q2 q3 q4 q5 ql
  have q0 := N2.out.box.c0
  have q1 := N2.out.box.c1
  have q2 := N2.out.box.c2
  have q3 := N2.out.box.c3
  have q4 := N2.out.box.c4
  have q5 := N2.out.box.c5
  have ql := N2.out.box.lt
  go_wp2_with fail
  refine (pmay0_any s d w2 (N2.out.hp.more N2.out.bel.size) (HZ.out.over N2.out.bel hz0) HFI.out).mono ?_
  rw [HM.out]
  rintro e w3 ⟨rfl, hb3⟩
  have N3 := Lib.hid (N2.out.next hb3)
  clear hb3 N2 q0 q1 q2 q3 q4 q5 ql
  have q0 := N3.out.box.c0
  have q1 := N3.out.box.c1
  have q2 := N3.out.box.c2
  have q3 := N3.out.box.c3
  have q4 := N3.out.box.c4
  have q5 := N3.out.box.c5
  have ql := N3.out.box.lt
  go_wp2_with fail
  refine (pused_any s d w3 (N3.out.hp.more N3.out.bel.size) (HZ.out.over N3.out.bel hz0) HFI.out).mono ?_
  rw [← HUS.out]
  rintro e w4 ⟨v4, rfl, ho4, hb4⟩
  have N4 := Lib.hid (N3.out.next hb4)
  obtain ⟨a4, c4, e4, hk4, _, _⟩ := Ls.owns_row ho4
  simp only [Value.slice.injEq, true_and] at e4
  obtain ⟨rfl, rfl⟩ := e4
  obtain ⟨va, n, vc⟩ := v4
  dsimp only at hk4 ⊢
  have hn : n ≤ 512 := by have h1 := hk4.1; have h2 := HUL.out; omega
  have HN : Hid (us.length = n) := Lib.hid hk4.1
  have K4 := Lib.hid hk4
  clear hb4 ho4 hk4 N3 q0 q1 q2 q3 q4 q5 ql
  go_wp2
  go_loopw [6, 7] (fun nn aa wr => ∃ k t : Nat, k ≤ n ∧ t ≤ 20 + s.w.n ∧ nn = .int .i64 k ∧ aa = .int .i64 t ∧ Hid (HNow w wr s d) ∧ Hid (Row wr wr.heap.size va n us) ∧ Hid (Upon us k t)) (fun _ aa _ => 20 + s.w.n - (intOf aa).toNat)
  case atStart => exact ⟨0, 0, Nat.zero_le _, Nat.zero_le _, rfl, rfl, N4, K4, Lib.hid ⟨Nat.zero_le _, fun i h => absurd h (by omega), fun i _ h => by have h1 := HUS.out; have := (used_in (h1 ▸ getD_mem h : us.getD i 0 ∈ usedL s d)).1; omega⟩⟩
  case round =>
    obtain ⟨k, t, hk, ht, rfl, rfl, N, K, HU⟩ := hrel
    have q0 := N.out.box.c0
    have q1 := N.out.box.c1
    have q2 := N.out.box.c2
    have q3 := N.out.box.c3
    have q4 := N.out.box.c4
    have q5 := N.out.box.c5
    have ql := N.out.box.lt
    by_cases hlt : t < 20 + s.w.n
    · have d5 : decide ((t : Int) < 20 + (s.w.n : Int)) = true := by simp; omega
      rcases HHD.out t with ⟨hin, he, ⟨o, e, b, m, hv⟩, g1, g2⟩ | ⟨hin, he⟩
      · obtain ⟨hk1, hk2, hU⟩ := HU.out.yes HRI.out hin
        rw [HN.out] at hk1
        have HU2 := Lib.hid hU
        have HV := Lib.hid hv
        have HE := Lib.hid he
        have d6 : decide (nOf (wd d t) < 1) = false := by simp; omega
        have d7 : decide (Cl.bg d.f s.p.n t ≤ nOf (wd d t)) = false := by simp; omega
        have d8 : decide ((n : Int) ≤ k) = false := by simp; omega
        have d9 : decide (n ≤ k) = false := by simp; omega
        obtain ⟨bb, off, rfl, hbl, hc⟩ := K.out.2 (show 0 < n by omega)
        have hq := hc k hk1
        rw [hk2] at hq
        have HQ := Lib.hid hq
        have HTK := Lib.hid hk2
        clear hU hv he hin hc hk2 hq
        go_wp2_with fail
        refine (phead_any s d t wr (N.out.hp.more N.out.bel.size) (HZ.out.over N.out.bel hz0) HFI.out).mono ?_
        rintro e' w5 ⟨rfl, hb5⟩
        rw [HV.out, HE.out]
        have N5 := Lib.hid (N.out.next hb5)
        have K5 := Lib.hid ((K.out.below hb5).more hb5.size)
        obtain ⟨w6, hw6⟩ : ∃ w6, w6 = w5.alloc (.cells #[.bool true, .bool o, .bool e, .int .i64 (nOf (wd d t)), .int .i64 b, .int .i64 m] 34) := ⟨_, rfl⟩
        have b6 : Below w5.heap.size w5 w6 := by rw [hw6]; exact (Below.refl _ _).alloc (Nat.le_refl _) _
        have HST : Hid (HNow w w6 s d ∧ X6 w6 w5.heap.size true o e (nOf (wd d t)) b m ∧ Row w6 w6.heap.size (some ⟨bb, off, none⟩) n us) := Lib.hid ⟨N5.out.next b6, by rw [hw6]; exact X6.new w5 true o e (nOf (wd d t)) b m _, (K5.out.below b6).more b6.size⟩
        have HBE := Lib.hid (fun W (h : HNow w W s d) => Cl.rbegins_any w.heap.size s.p.a s.p.n s.p.c d.f (t : Int) W (by have := HFI.out.pn; omega) h.hp.pages h.bel.size)
        clear hb5 b6 N5 K5 N K HQ hbl q0 q1 q2 q3 q4 q5 ql
        go_wp2_with fail
        rw [← hw6]
        clear hw6
        go_region_held3 (fun W => (HNow w W s d ∧ X6 W w5.heap.size true o e (nOf (wd d t)) b m ∧ Row W W.heap.size (some ⟨bb, off, none⟩) n us) ∧ w.heap.size < W.heap.size ∧ w5.heap.size < W.heap.size ∧ bb < W.heap.size ∧ W.cell? ⟨w.heap.size, 0, none⟩ = some (.slice s.w.a s.w.n s.w.c) ∧ W.cell? ⟨w.heap.size, 1, none⟩ = some (.slice s.p.a s.p.n s.p.c) ∧ W.cell? ⟨w.heap.size, 2, none⟩ = some (.slice (s.u 0).a (s.u 0).n (s.u 0).c) ∧ W.cell? ⟨w.heap.size, 3, none⟩ = some (.slice (s.u 1).a (s.u 1).n (s.u 1).c) ∧ W.cell? ⟨w.heap.size, 4, none⟩ = some (.slice (s.u 2).a (s.u 2).n (s.u 2).c) ∧ W.cell? ⟨w.heap.size, 5, none⟩ = some (.slice s.c.a s.c.n s.c.c) ∧ W.cell? ⟨w5.heap.size, 0, none⟩ = some (.bool true) ∧ W.cell? ⟨w5.heap.size, 1, none⟩ = some (.bool o) ∧ W.cell? ⟨w5.heap.size, 2, none⟩ = some (.bool e) ∧ W.cell? ⟨w5.heap.size, 3, none⟩ = some (.int .i64 (nOf (wd d t))) ∧ W.cell? ⟨w5.heap.size, 4, none⟩ = some (.int .i64 b) ∧ W.cell? ⟨w5.heap.size, 5, none⟩ = some (.int .i64 m) ∧ W.cell? ⟨bb, off + k, none⟩ = some (.int .i64 (t : Int))) (first
          | exact obj_keep hk1 HTK.out HST.out (below_drawn' (Below.refl _ _) 1)
          | exact obj_keep hk1 HTK.out (‹(HNow w _ s d ∧ _) ∧ _›).1 ‹Below _ _ _›) (first
          | ((go_at_call 21; refine (HBE.out _ (‹(HNow w _ s d ∧ _) ∧ _›).1.1).mono ?_; rintro e' w7 ⟨rfl, hb7⟩)))
        have HE7 := Lib.hid (‹(HNow w w7 s d ∧ _) ∧ _›).1
        clear HST
        go_wp2
        go_roundw
        case rel => exact ⟨k + 1, t + 1, by omega, by omega, by go_num, by go_num, Lib.hid HE7.out.1, Lib.hid HE7.out.2.2, Lib.hid (by have := HU2.out; rwa [show ((t : Int) + 1) = ((t + 1 : Nat) : Int) by omega] at this)⟩
        case measure => simp [intOf]; omega
      · have HU2 := Lib.hid (HU.out.no hin)
        have HE := Lib.hid he
        obtain ⟨x0, x1, x2, x3, x4, x5, hx⟩ := head_form s d t
        have HX := Lib.hid hx
        clear hin he hx
        go_wp2_with fail
        refine (phead_any s d t wr (N.out.hp.more N.out.bel.size) (HZ.out.over N.out.bel hz0) HFI.out).mono ?_
        rintro e' w5 ⟨rfl, hb5⟩
        rw [HX.out, HE.out]
        have b5 := (Below.refl w5.heap.size w5).alloc (Nat.le_refl _) (.cells #[.bool x0, .bool x1, .bool x2, .int .i64 x3, .int .i64 x4, .int .i64 x5] 34)
        have N5 := Lib.hid ((N.out.next hb5).next b5)
        have K5 := Lib.hid ((((K.out.below hb5).more hb5.size).below b5).more b5.size)
        clear hb5 b5 q0 q1 q2 q3 q4 q5 ql
        go_wp2
        go_roundw
        case rel => exact ⟨k, t + 1, hk, by omega, rfl, by go_num, N5, K5, Lib.hid (by have := HU2.out; rwa [show ((t : Int) + 1) = ((t + 1 : Nat) : Int) by omega] at this)⟩
        case measure => simp [intOf]; omega
    · have d5 : decide ((t : Int) < 20 + (s.w.n : Int)) = false := by simp; omega
      obtain rfl : k = n := by
        have h1 := HU.out.all (fun x hx => by have := HIN.out x hx; omega)
        have h2 := HN.out
        omega
      go_wp2
      go_ret
      exact ⟨rfl, N.out.bel⟩
end
theorem walk (s : Hs) (d : Hd_) (w : World) (hz : Cl.Sz w) (hp : Hp w w.heap.size s d) (hv : Fit64 d.ws) :
    Calls Tryd.prog 7 #[(.agg #[.slice s.w.a s.w.n s.w.c, .slice s.p.a s.p.n s.p.c, .slice (s.u 0).a (s.u 0).n (s.u 0).c, .slice (s.u 1).a (s.u 1).n (s.u 1).c, .slice (s.u 2).a (s.u 2).n (s.u 2).c, .slice s.c.a s.c.n s.c.c])] w fun e w' => e = .returned (.bool true) ∧ Below w.heap.size w w' := by
  cases hf : fewH s
  · exact walk_few s d w hz hf hp
  · cases hm : mayB0 s d
    · exact walk_may s d w hz hf hm hp hv
    · exact walk_all s d w _ rfl hz hf hm hp hv
-- the frame (hpframe.py)
set_option maxRecDepth 100000 in
theorem lifted (os : Os) (started : os.Started) (H : Type) (enc : TypeId × Value → H) :
    ReturnsInHanded {} Tryd.checked os 7 .any (fun w args => (Rows.heapUsedSpec.pre enc Tryd.prog Tryd.f7 [] false w args ∧ laidMetH Tryd.prog laidSizes w) ∧ sizedMet enc Tryd.prog Tryd.f7 (OpenSpec.ofChange Rows.heapUsedSpec) false w args)
      (Rows.heapUsedSpec.post enc Tryd.prog Tryd.f7 false true false false) := by
  refine returnsInHanded_of_change_and (C := Tryd.checked) (X := fun w _ => laidMetH Tryd.prog laidSizes w) (fun _ _ _ hh h => h.of_heap hh) own started (by kernel_rfl) Tryd.func7
    (ChangeSpec.witness_shaped (enc := enc) (C := Tryd.checked) (os := os) (X := fun w _ => laidMetH Tryd.prog laidSizes w) false (World.doorLaid Tryd.prog 400 os) #[.agg #[.slice none 0 0, .slice none 0 0, .slice none 0 0, .slice none 0 0, .slice none 0 0, .slice none 0 0]] 8 rfl (World.shaped_of_RefB (by kernel_rfl) (by kernel_rfl)) (by kernel_rfl) (by kernel_rfl) (by kernel_rfl) (door_met os _)) ?_
  intro W base args ds gs before hval0 hW _ _ hL _
  have hval : ∀ (j : Nat) t v, Tryd.f7.params[j]? = some t → args[j]? = some v → Value.okWide Tryd.prog W .any base t v := hval0
  have hW' := hW
  obtain ⟨p, q, hA0, hV, rfl, hfz, hnd⟩ := hW
  have hA : DataW.TrodAll enc Tryd.prog W 0 (fun _ => true) true Tryd.f7.params.toList args.toList ds p := hA0
  rw [Tryd.params7] at hA hval
  obtain ⟨v0, vs0, d0, ds0, p0, q0, hargs, rfl, rfl, h0, r0⟩ := trodAll_cons hA
  obtain ⟨rfl, rfl, rfl⟩ := trodAll_nil r0
  obtain rfl : args = #[v0] := by cases args; simp_all
  obtain ⟨rfl, rfl⟩ := trodVars_none hV
  have k0 := h0
  have lt0 : ∀ x ∈ p0, x.block < W.heap.size := by obtain ⟨m, hm⟩ := k0; exact DataW.trod_lt m _ _ _ hm
  obtain ⟨s0, z0, rfl, w0, f0, b0⟩ := heap_of (hval 0 28 v0 rfl rfl) h0
  clear hA0 hval0
  refine (walk s0 z0 W (of_laid hL) w0 f0).mono fun e W' ⟨he, bel⟩ => ?_
  subst he
  exact ⟨_, rfl, _, _, _, [], _, [], hW', trodAll_mk1 (shut_bool Tryd.underlying4 _), (trodAll_cons_mk (Below.trod laidOut (by kernel_rfl) (of_decide_eq_true (by kernel_rfl)) k0 bel lt0) trodAll_mk0), rfl, bel.frame _, fun h => by cases h⟩

theorem over : Rows.HeapUsedSaid :=
  OpenClaim.holds_of_wide 7 Tryd.f7 rfl rfl rfl rfl rfl rfl rfl ⟨rfl, rfl, rfl, rfl, rfl⟩ rfl rfl rfl rfl rfl (by kernel_rfl) Tryd.func7 (by kernel_rfl)
    (of_decide_eq_true (by kernel_rfl)) (by unfold Func.isWrapper; first | (rw [if_pos (by decide +kernel)]; kernel_rfl) | (rw [if_neg (by decide +kernel)]; exact ⟨rfl, rfl⟩))
    (fun os started H enc _ => lifted os started H enc)

/-- The statement: the card. -/
theorem proved : Rows.HeapUsedCardSaid :=
  Claim7.holds_tied_plain_at .later [] [.data] true Rows.heapUsedCard.stood.harness false
    over (fun _ h => by cases h) (by kernel_rfl) (fun _ h => by cases h) heapUsed_row_tie rfl ⟨rfl, rfl⟩ (by kernel_rfl) rfl
    (fun f fn hf hfn => by
      obtain rfl : f = 7 := Option.some.inj ((show Tryd.prog.funcNamed "ragpicker/ragpickerlaw07.HeapUsed" = some 7 by kernel_rfl).symm.trans hf) |>.symm
      obtain rfl : fn = Tryd.f7 := (Option.some.inj (Tryd.func7.symm.trans hfn)).symm
      exact ⟨by kernel_rfl, fun j t ht => by
        rw [Tryd.params7] at ht
        have hm : t ∈ [28] := by simpa using Array.mem_of_getElem? ht
        have hall : ([28].all fun u => !Tryd.prog.wantsStandIn u) = true := by kernel_rfl
        exact (show Tryd.prog.wantsStandIn t = false by simpa using List.all_eq_true.1 hall t hm)⟩)
    (by kernel_rfl)
#print axioms proved
end Go.Proofs.YtodpciodongajaaDoor.HeapUsed
