/-
  CellsOn: a page's cells begin on it, each behind the room of the one ahead; a free page, and one that goes on, has none: for every slice of at most 64 pages, every number of a page; the table of sizes is tied to the program's text by the card.
-/
import Derived.Test.YtlmaeppckaempaaDoorClFrame
namespace Go.Proofs.YtlmaeppckaempaaDoor.CellsOn
open Go.Proofs.YtlmaeppckaempaaDoor
open Go.ChangeShapes Go.WideShapes Go.ChangeAt Go.RowKit

/-- The walk is over before any page is looked at. -/
theorem early (A : Option Addr) (len cap : Nat) (f : Nat → Int × Int) (a : Int) (w : World) (hz : Sz w) (hp : PIn w A len cap f) (h : 64 < len ∨ mayB f len = false ∨ a < 0 ∨ (len : Int) ≤ a) :
    Calls Tryd.prog 7 #[.slice A len cap, .int .i64 a] w fun e w' => e = .returned (.bool true) ∧ Below w.heap.size w w' := by
  have HN := Lib.hid (Now.begin hz hp)
  have HZ := Lib.hid hz
  have hcl := hp.2.1
  have hcm := hp.2.2
  clear hz hp
  by_cases hlen : 64 < len
  · clear h
    go_enter Tryd.func7, Tryd.ntmps7
    go_wp2_with fail
    refine (awake_yes _ HZ.out).mono ?_
    rintro e w1 ⟨rfl, hb1⟩
    have HB := Lib.hid hb1
    clear hb1
    go_wp2
    go_ret
    exact ⟨rfl, HB.out⟩
  have hn : len ≤ 1000 := by omega
  cases hM : mayB f len
  · have HM := Lib.hid hM
    clear hM h
    go_enter Tryd.func7, Tryd.ntmps7
    go_wp2_with fail
    refine (awake_yes _ HZ.out).mono ?_
    rintro e w1 ⟨rfl, hb1⟩
    have HN1 := Lib.hid (HN.out.next hb1)
    clear hb1
    go_wp2_with fail
    refine (HN1.out.mayNo cap HM.out hn).mono ?_
    rintro e w2 ⟨rfl, hb2⟩
    have HN2 := Lib.hid (HN1.out.next hb2)
    clear hb2
    go_wp2
    go_ret
    exact ⟨rfl, HN2.out.bel⟩
  · have HM := Lib.hid hM
    by_cases h0 : a < 0
    · have d0 : decide (a < 0) = true := by simpa using h0
      clear hM h
      go_enter Tryd.func7, Tryd.ntmps7
      go_wp2_with fail
      refine (awake_yes _ HZ.out).mono ?_
      rintro e w1 ⟨rfl, hb1⟩
      have HN1 := Lib.hid (HN.out.next hb1)
      clear hb1
      go_wp2_with fail
      refine (HN1.out.mayYes cap HM.out).mono ?_
      rintro e w2 ⟨rfl, hb2⟩
      have HN2 := Lib.hid (HN1.out.next hb2)
      clear hb2
      go_wp2
      go_ret
      exact ⟨rfl, HN2.out.bel⟩
    · have h1 : (len : Int) ≤ a := by
        rcases h with h | h | h | h
        · omega
        · rw [hM] at h; cases h
        · omega
        · exact h
      have d0 : decide (a < 0) = false := by simpa using h0
      have d1 : decide ((len : Int) ≤ a) = true := by simpa using h1
      clear hM h
      go_enter Tryd.func7, Tryd.ntmps7
      go_wp2_with fail
      refine (awake_yes _ HZ.out).mono ?_
      rintro e w1 ⟨rfl, hb1⟩
      have HN1 := Lib.hid (HN.out.next hb1)
      clear hb1
      go_wp2_with fail
      refine (HN1.out.mayYes cap HM.out).mono ?_
      rintro e w2 ⟨rfl, hb2⟩
      have HN2 := Lib.hid (HN1.out.next hb2)
      clear hb2
      go_wp2
      go_ret
      exact ⟨rfl, HN2.out.bel⟩

theorem onS_get {f : Nat → Int × Int} {n k j : Nat} (h : mayB f n = true) (hk : k < n) (hj : j < numOf (f k)) : (onS f n k).getD j 0 = 16 + k * 16 + j * roomOf (f k) := by
  unfold onS
  rw [if_pos ⟨h, by omega, by omega⟩, Int.toNat_natCast]
  simp [List.getD, pageL_get k _ _ j hj]
theorem onS_len {f : Nat → Int × Int} {n k : Nat} (h : mayB f n = true) (hk : k < n) : (onS f n k).length = numOf (f k) := by
  unfold onS
  rw [if_pos ⟨h, by omega, by omega⟩, Int.toNat_natCast, List.length_map, pageL_length]
theorem room_at {f : Nat → Int × Int} {n k j : Nat} {q : Int} (h : mayB f n = true) (hk : k < n) (hj : j < numOf (f k)) (hq : q = 16 + k * 16 + j * roomOf (f k)) : (foundV (allL f n) (pAt q)).2 = roomOf (f k) := by
  have := (allL_apart f n).find_at (List.mem_of_getElem? (allL_get h hk hj)) rfl
  rw [hq]
  simp only at this
  simp [foundV, this]

set_option maxHeartbeats 1000000 in
theorem walk (A : Option Addr) (len cap : Nat) (f : Nat → Int × Int) (a : Int) (w : World) (hz : Sz w) (hp : PIn w A len cap f) (_ : (Lit.int .i64 a).wf = true) :
    Calls Tryd.prog 7 #[.slice A len cap, .int .i64 a] w fun e w' => e = .returned (.bool true) ∧ Below w.heap.size w w' := by
  by_cases hearly : 64 < len ∨ mayB f len = false ∨ a < 0 ∨ (len : Int) ≤ a
  · exact early A len cap f a w hz hp hearly
  have hM : mayB f len = true := by
    cases h : mayB f len
    · exact absurd (.inr (.inl h)) hearly
    · rfl
  obtain ⟨k, rfl⟩ : ∃ k : Nat, a = k := ⟨a.toNat, by omega⟩
  have hk : k < len := by omega
  have hn : len ≤ 64 := by omega
  have hn' : len ≤ 1000 := by omega
  have HN := Lib.hid (Now.begin hz hp)
  have HZ := Lib.hid hz
  have hcl := hp.2.1
  have hcm := hp.2.2
  have HM := Lib.hid hM
  have HP := Lib.hid (may_pm hM hk)
  have HL := Lib.hid (onS_len hM hk)
  have hnr := num_room HP.out
  have hns := num_some HP.out
  have HW := Lib.hid (num_words HP.out)
  have HK := Lib.hid (num_kind HP.out)
  obtain ⟨num, HNum⟩ : ∃ num, Hid (num = numOf (f k)) := ⟨_, Lib.hid rfl⟩
  obtain ⟨room, HRm⟩ : ∃ room, Hid (room = roomOf (f k)) := ⟨_, Lib.hid rfl⟩
  rw [← HNum.out, ← HRm.out] at hnr hns
  have d0 : decide ((k : Int) < 0) = false := by simp
  have d1 : decide (len ≤ k) = false := by simp; omega
  clear hz hp hM hearly
  go_enter Tryd.func7, Tryd.ntmps7
  go_wp2_with fail
  refine (awake_yes _ HZ.out).mono ?_
  rintro e w1 ⟨rfl, hb1⟩
  have HN1 := Lib.hid (HN.out.next hb1)
  clear hb1
  go_wp2_with fail
  refine (HN1.out.mayYes cap HM.out).mono ?_
  rintro e w2 ⟨rfl, hb2⟩
  have HN2 := Lib.hid (HN1.out.next hb2)
  clear hb2
  go_wp2_with fail
  refine (HN2.out.on cap k hn').mono ?_
  rintro e w3 ⟨a3, c3, rfl, hr3, hc3, hm3, hb3⟩
  have HN3 := Lib.hid (HN2.out.next hb3)
  rw [HL.out, ← HNum.out] at hr3 hc3 ⊢
  have HR := Lib.hid hr3
  clear hb3 hr3
  go_wp2
  go_loopw [7, 8] (fun q i wr => ∃ (j : Nat) (x : Int), j ≤ num ∧ i = .int .i64 j ∧ q = .int .i64 x ∧ Hid (x = 16 + k * 16 + j * room) ∧ 0 ≤ x ∧ x ≤ 16 + k * 16 + 64 * j ∧ Below w3.heap.size w3 wr) (fun _ i _ => num - (intOf i).toNat)
  case atStart => exact ⟨0, 16 + k * 16, Nat.zero_le _, rfl, by go_num, Lib.hid (by simp), by omega, by omega, Below.refl _ _⟩
  case round =>
    obtain ⟨j, x, hj, rfl, rfl, HX, hx0, hx1, hbr⟩ := hrel
    have HNr := Lib.hid (HN3.out.next hbr)
    have HRr := Lib.hid (HR.out.below hbr)
    have HBr := Lib.hid hbr
    have hzr := hbr.size
    clear hbr
    by_cases hlt : j < num
    · obtain ⟨b, off, rfl, hb, hc⟩ := HRr.out.2 (by omega)
      have c0 := hc j hlt
      rw [onS_get HM.out hk (by rw [← HNum.out]; exact hlt), ← HRm.out, ← HX.out] at c0
      clear hc
      have HV := Lib.hid (room_at (q := x) HM.out hk (by rw [← HNum.out]; exact hlt) (by rw [← HRm.out]; exact HX.out))
      have HL2 := Lib.hid (show ((j + 1 : Nat) : Int) * room = j * room + room by rw [Int.natCast_add, Int.add_mul]; simp)
      go_wp2_with fail
      refine (HNr.out.room cap x room (by rw [HV.out, HRm.out]) hn').mono ?_
      rintro e w4 ⟨rfl, hb4⟩
      have HB4 := Lib.hid (HBr.out.trans (hb4.mono hzr))
      clear hb4
      go_wp2
      go_roundw
      case rel => exact ⟨j + 1, x + room, by omega, by go_num, by go_num, Lib.hid (by rw [HX.out, HL2.out]; omega), by omega, by omega, HB4.out⟩
      case measure => simp [intOf]; omega
    · obtain rfl : j = num := by omega
      obtain ⟨bl, off, rfl, hbl, hc⟩ := HNr.out.row (by omega)
      obtain ⟨c0, _⟩ := hc k hk
      have hbw : bl < wr.heap.size := by have := HNr.out.bel.size; omega
      clear hc
      by_cases hkind : (f k).1 = 1 ∨ (f k).1 = 2
      · have hnum : 0 < j := by rw [HNum.out]; exact HK.out.2 hkind
        have hwords : 16 ≤ (j : Int) * room := by
          have := HW.out
          rw [← HNum.out, ← HRm.out] at this
          rw [this]
          unfold wordsIn
          have := (pmB_iff _).1 HP.out
          split
          · omega
          · split <;> omega
        have hx32 : 32 + k * 16 ≤ x := by have := HX.out; omega
        have e0 : ((f k).1 == 0) = false := by rw [beq_eq_false_iff_ne]; omega
        have e3 : ((f k).1 == 3) = false := by rw [beq_eq_false_iff_ne]; omega
        have dj : decide (1 ≤ (j : Int)) = true := by simp; omega
        clear hwords hkind
        go_wp2
        go_ret
        exact ⟨rfl, HNr.out.bel⟩
      · have hnum : j = 0 := by
          have := mt HK.out.1 hkind
          rw [← HNum.out] at this
          omega
        have hp4 := (pmB_iff _).1 HP.out
        subst hnum
        by_cases h0 : (f k).1 = 0
        · have e0 : ((f k).1 == 0) = true := by simpa using h0
          clear hkind hp4 h0
          go_wp2
          go_ret
          exact ⟨rfl, HNr.out.bel⟩
        · have e0 : ((f k).1 == 0) = false := by simpa using h0
          have e3 : ((f k).1 == 3) = true := by rw [beq_iff_eq]; omega
          clear hkind hp4 h0
          go_wp2
          go_ret
          exact ⟨rfl, HNr.out.bel⟩

set_option maxRecDepth 100000 in
theorem lifted (os : Os) (started : os.Started) (H : Type) (enc : TypeId × Value → H) :
    ReturnsInHanded {} Tryd.checked os 7 .any (fun w args => (Rows.cellsOnSpec.pre enc Tryd.prog Tryd.f7 [] false w args ∧ laidMetH Tryd.prog laidSizes w) ∧ sizedMet enc Tryd.prog Tryd.f7 (OpenSpec.ofChange Rows.cellsOnSpec) false w args)
      (Rows.cellsOnSpec.post enc Tryd.prog Tryd.f7 false true false false) := by
  refine returnsInHanded_of_change_and (C := Tryd.checked) (X := fun w _ => laidMetH Tryd.prog laidSizes w) (fun _ _ _ hh h => h.of_heap hh) own started (by kernel_rfl) Tryd.func7
    (ChangeSpec.witness_shaped (enc := enc) (C := Tryd.checked) (os := os) (X := fun w _ => laidMetH Tryd.prog laidSizes w) false (World.doorLaid Tryd.prog 400 os) #[.slice none 0 0, .int .i64 0] 8 rfl (World.shaped_of_RefB (by kernel_rfl) (by kernel_rfl)) (by kernel_rfl) (by kernel_rfl) (by kernel_rfl) (door_met os _)) ?_
  intro W base args ds gs before hval0 hW _ _ hL _
  have hval : ∀ (j : Nat) t v, Tryd.f7.params[j]? = some t → args[j]? = some v → Value.okWide Tryd.prog W .any base t v := hval0
  have hW' := hW
  obtain ⟨p, q, hA0, hV, rfl, hfz, hnd⟩ := hW
  have hA : DataW.TrodAll enc Tryd.prog W 0 (fun _ => true) true Tryd.f7.params.toList args.toList ds p := hA0
  rw [Tryd.params7] at hA hval
  obtain ⟨v0, vs0, d0, ds0, p0, q0, hargs, rfl, rfl, h0, r0⟩ := trodAll_cons hA
  obtain ⟨v1, vs1, d1, ds1, p1, q1, rfl, rfl, rfl, h1, r1⟩ := trodAll_cons r0
  obtain ⟨rfl, rfl, rfl⟩ := trodAll_nil r1
  obtain rfl : args = #[v0, v1] := by cases args; simp_all
  obtain ⟨rfl, rfl⟩ := trodVars_none hV
  obtain ⟨a0, len0, cap0, rfl⟩ := okWide_slice Tryd.underlying22 (hval 0 22 v0 rfl rfl)
  have k0 := h0
  have lt0 : ∀ x ∈ p0, x.block < W.heap.size := by obtain ⟨m, hm⟩ := k0; exact DataW.trod_lt m _ _ _ hm
  obtain ⟨z0, w0⟩ : ∃ f, PIn W a0 len0 cap0 f := pin_of h0
  obtain ⟨a1, rfl, rfl, rfl, w1⟩ := open_int Tryd.underlying3 (hval 1 3 v1 rfl rfl) h1
  clear hA0 hval0
  refine (walk a0 len0 cap0 z0 a1 W (of_laid hL) w0 w1).mono fun e W' ⟨he, bel⟩ => ?_
  subst he
  exact ⟨_, rfl, _, _, _, [], _, [], hW', trodAll_mk1 (shut_bool Tryd.underlying4 _), (trodAll_cons_mk (Below.trod laidOut (by kernel_rfl) (of_decide_eq_true (by kernel_rfl)) k0 bel lt0) (trodAll_cons_mk (shut_int Tryd.underlying3 w1) trodAll_mk0)), rfl, bel.frame _, fun h => by cases h⟩

theorem over : Rows.CellsOnSaid :=
  OpenClaim.holds_of_wide 7 Tryd.f7 rfl rfl rfl rfl rfl rfl rfl ⟨rfl, rfl, rfl, rfl, rfl⟩ rfl rfl rfl rfl rfl (by kernel_rfl) Tryd.func7 (by kernel_rfl)
    (of_decide_eq_true (by kernel_rfl)) (by unfold Func.isWrapper; first | (rw [if_pos (by decide +kernel)]; kernel_rfl) | (rw [if_neg (by decide +kernel)]; exact ⟨rfl, rfl⟩))
    (fun os started H enc _ => lifted os started H enc)

/-- The statement: the card. -/
theorem proved : Rows.CellsOnCardSaid :=
  Claim7.holds_tied_plain_at .later [] [.data] true Rows.cellsOnCard.stood.harness false
    over (fun _ h => by cases h) (by kernel_rfl) (fun _ h => by cases h) cellsOn_row_tie rfl ⟨rfl, rfl⟩ (by kernel_rfl) rfl
    (fun f fn hf hfn => by
      obtain rfl : f = 7 := Option.some.inj ((show Tryd.prog.funcNamed "ragpicker/ragpickerlaw05.CellsOn" = some 7 by kernel_rfl).symm.trans hf) |>.symm
      obtain rfl : fn = Tryd.f7 := (Option.some.inj (Tryd.func7.symm.trans hfn)).symm
      exact ⟨by kernel_rfl, fun j t ht => by
        rw [Tryd.params7] at ht
        have hm : t ∈ [22, 3] := by simpa using Array.mem_of_getElem? ht
        have hall : ([22, 3].all fun u => !Tryd.prog.wantsStandIn u) = true := by kernel_rfl
        exact (show Tryd.prog.wantsStandIn t = false by simpa using List.all_eq_true.1 hall t hm)⟩)
    (by kernel_rfl)
#print axioms proved
end Go.Proofs.YtlmaeppckaempaaDoor.CellsOn
