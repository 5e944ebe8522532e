/-
  CellsTile: cells' rooms, and free pages, tile all words: each word lies in just one cell, or in a free page: for every slice of at most 64 pages; the table of sizes is tied to the program's text by the card.
-/
import Derived.Test.YtlmaeppckaempaaDoorClFrame
namespace Go.Proofs.YtlmaeppckaempaaDoor.CellsTile
open Go.Proofs.YtlmaeppckaempaaDoor
open Go.ChangeShapes Go.WideShapes Go.ChangeAt Go.RowKit

theorem step_in {p : Int × Int} (h : pmB p = true) {j : Nat} (hj : j < numOf p) : (j : Int) * roomOf p < 16 := by
  rcases pm_cases h with rfl | rfl | rfl | rfl | rfl | rfl | rfl | rfl | rfl <;> simp [numOf, roomOf, wordsOf] at hj ⊢ <;> omega
theorem wide_words {f : Nat → Int × Int} {k : Nat} (hk : (f k).1 = 1 ∨ (f k).1 = 2) : wordsIn (f k) = 16 * wide f k := by
  unfold wordsIn wide
  rcases hk with e | e
  · rw [if_pos e, if_neg (by omega)]; omega
  · rw [if_neg (by omega), if_pos e, if_pos e]
theorem num_rest {f : Nat → Int × Int} {k : Nat} (h : f k = (3, 0)) : numOf (f k) = 0 := by rw [h]; rfl
theorem wide_len {f : Nat → Int × Int} {n k : Nat} (h : mayB f n = true) (hk : k < n) (hkind : (f k).1 = 1 ∨ (f k).1 = 2) {m : Nat} (hm : wide f k = m) :
    1 ≤ m ∧ k + m ≤ n ∧ st f (k + m) = 0 ∧ (cellsL f (k + m)).length = (cellsL f k).length + numOf (f k) := by
  obtain ⟨h1, h4, hn, hz, hj⟩ := wide_facts h hk hkind
  rw [hm] at h1 h4 hn hj
  have len : ∀ j : Nat, j + 1 ≤ m → (cellsL f (k + (j + 1))).length = (cellsL f k).length + numOf (f k) := by
    intro j
    induction j with
    | zero => intro _; exact cellsL_len_succ f k
    | succ j ih =>
      intro hjm
      have e := (hj (j + 1) (by omega)).2 (by omega)
      show (cellsL f (k + (j + 1) + 1)).length = _
      rw [cellsL_len_succ, ih (by omega), num_rest e]
      rfl
  refine ⟨by omega, by omega, ?_, ?_⟩
  · have := (hj (m - 1) (by omega)).1
    rw [show k + (m - 1) + 1 = k + m by omega] at this
    omega
  · have := len (m - 1) (by omega)
    rwa [show m - 1 + 1 = m by omega] at this
theorem kind_now {f : Nat → Int × Int} {n k : Nat} (h : mayB f n = true) (hk : k < n) (hs : st f k = 0) (h0 : (f k).1 ≠ 0) : (f k).1 = 1 ∨ (f k).1 = 2 := by
  obtain ⟨hp, h3⟩ := (okB_iff f k).1 (((mayB_iff f n).1 h).2.2.1 k hk)
  have := (pmB_iff _).1 hp
  have : (f k).1 ≠ 3 := fun e => by have := h3.1 e; omega
  omega
/-- A cell's first word, its room, and its last word. -/
theorem cell_told {f : Nat → Int × Int} {n i : Nat} {q r : Int} (h : (allL f n)[i]? = some (q, r)) :
    (foundV (allL f n) (pAt q)).2 = r ∧ (foundV (allL f n) (pIn q)).1 = q ∧ foundS (allL f n) (pIn q) = true ∧ (foundV (allL f n) (pIn (q + r - 1))).1 = q ∧ foundS (allL f n) (pIn (q + r - 1)) = true := by
  have ha := allL_apart f n
  have hmem := List.mem_of_getElem? h
  have h2 := (ha.2 _ hmem).2
  simp only at h2
  have r1 := ha.find_at hmem rfl
  have r2 := ha.find_in hmem (pIn_iff.2 ⟨Int.le_refl _, by simp only; omega⟩)
  have r3 := ha.find_in (x := q + r - 1) hmem (pIn_iff.2 ⟨by simp only; omega, by simp only; omega⟩)
  simp only at r1 r2
  simp [foundV, foundS, r1, r2, r3]
theorem none_out {f : Nat → Int × Int} {n : Nat} {x : Int} (h : x < 16 ∨ 16 + 16 * (n : Int) ≤ x) : (foundV (allL f n) (pIn x)).1 = 0 ∧ foundS (allL f n) (pIn x) = false := by
  have : (allL f n).find? (pIn x) = none := by
    rw [List.find?_eq_none]
    intro c hc hp
    have h1 := ((allL_apart f n).2 c hc).1
    have h2 := (allL_end hc).2
    have := pIn_iff.1 hp
    omega
  simp [foundV, foundS, this]

theorem early (A : Option Addr) (len cap : Nat) (f : Nat → Int × Int) (w : World) (hz : Sz w) (hp : PIn w A len cap f) (h : 64 < len ∨ mayB f len = false) :
    Calls Tryd.prog 4 #[.slice A len cap] w fun e w' => e = .returned (.bool true) ∧ Below w.heap.size w w' := by
  have HN := Lib.hid (Now.begin hz hp)
  have HZ := Lib.hid hz
  have hcl := hp.2.1
  have hcm := hp.2.2
  clear hz hp
  by_cases hlen : 64 < len
  · clear h
    go_enter Tryd.func4, Tryd.ntmps4
    go_wp2_with fail
    refine (awake_yes _ HZ.out).mono ?_
    rintro e w1 ⟨rfl, hb1⟩
    have HB := Lib.hid hb1
    clear hb1
    go_wp2
    go_ret
    exact ⟨rfl, HB.out⟩
  have hn : len ≤ 1000 := by omega
  have hM : mayB f len = false := h.resolve_left hlen
  have HM := Lib.hid hM
  clear hM h
  go_enter Tryd.func4, Tryd.ntmps4
  go_wp2_with fail
  refine (awake_yes _ HZ.out).mono ?_
  rintro e w1 ⟨rfl, hb1⟩
  have HN1 := Lib.hid (HN.out.next hb1)
  clear hb1
  go_wp2_with fail
  refine (HN1.out.mayNo cap HM.out hn).mono ?_
  rintro e w2 ⟨rfl, hb2⟩
  have HN2 := Lib.hid (HN1.out.next hb2)
  clear hb2
  go_wp2
  go_ret
  exact ⟨rfl, HN2.out.bel⟩

theorem allS_len (f : Nat → Int × Int) (n : Nat) : (allS f n).length = (allL f n).length := by simp [allS]
theorem allS_get {f : Nat → Int × Int} {n j : Nat} {c : Int × Int} (h : (allL f n)[j]? = some c) : (allS f n).getD j 0 = c.1 := by
  simp [allS, List.getD, h]


set_option maxRecDepth 100000 in
set_option maxHeartbeats 2000000 in
theorem walk (A : Option Addr) (len cap : Nat) (f : Nat → Int × Int) (w : World) (hz : Sz w) (hp : PIn w A len cap f) :
    Calls Tryd.prog 4 #[.slice A len cap] w fun e w' => e = .returned (.bool true) ∧ Below w.heap.size w w' := by
  by_cases hearly : 64 < len ∨ mayB f len = false
  · exact early A len cap f w hz hp hearly
  have hM : mayB f len = true := by
    cases h : mayB f len
    · exact absurd (.inr h) hearly
    · rfl
  have hn : len ≤ 64 := by omega
  have hn' : len ≤ 1000 := by omega
  have HN := Lib.hid (Now.begin hz hp)
  have HZ := Lib.hid hz
  have hcl := hp.2.1
  have hcm := hp.2.2
  have HM := Lib.hid hM
  obtain ⟨m, HL⟩ : ∃ m, Hid (m = (allL f len).length) := ⟨_, Lib.hid rfl⟩
  have hm : m ≤ 512 := by rw [HL.out]; exact allL_length f len
  clear hz hp hM hearly
  go_enter Tryd.func4, Tryd.ntmps4
  go_wp2_with fail
  refine (awake_yes _ HZ.out).mono ?_
  rintro e w1 ⟨rfl, hb1⟩
  have HN1 := Lib.hid (HN.out.next hb1)
  clear hb1
  go_wp2_with fail
  refine (HN1.out.mayYes cap HM.out).mono ?_
  rintro e w2 ⟨rfl, hb2⟩
  have HN2 := Lib.hid (HN1.out.next hb2)
  clear hb2
  go_wp2_with fail
  refine (HN2.out.all cap hn').mono ?_
  rintro e w3 ⟨a3, c3, rfl, hr3, hc3, hm3, hb3⟩
  have HN3 := Lib.hid (HN2.out.next hb3)
  rw [allS_len, ← HL.out] at hr3 hc3 ⊢
  have HR := Lib.hid hr3
  clear hb3 hr3
  go_wp2
  go_loopw [4, 6, 7] (fun a i p wr => ∃ k b : Nat, k ≤ len ∧ b ≤ m ∧ a = .int .i64 (16 + 16 * (k : Int)) ∧ i = .int .i64 b ∧ p = .int .i64 k ∧ Hid (b = (cellsL f k).length) ∧ Hid (st f k = 0) ∧ Below w3.heap.size w3 wr) (fun _ _ p _ => len - (intOf p).toNat)
  case atStart => exact ⟨0, 0, Nat.zero_le _, Nat.zero_le _, rfl, rfl, rfl, Lib.hid rfl, Lib.hid rfl, Below.refl _ _⟩
  case round =>
    obtain ⟨k, b, hk, hb, rfl, rfl, rfl, HB, HS, hbr⟩ := hrel
    have HNr := Lib.hid (HN3.out.next hbr)
    have HRr := Lib.hid (HR.out.below hbr)
    have HBr := Lib.hid hbr
    have hzr := hbr.size
    clear hbr
    by_cases hlt : k < len
    · obtain ⟨bl, off, rfl, hbl, hc⟩ := HNr.out.row (by omega)
      obtain ⟨c0, _⟩ := hc k hlt
      have hbw : bl < wr.heap.size := by have := HNr.out.bel.size; omega
      clear hc
      have HO := Lib.hid (((mayB_iff f len).1 HM.out).2.2.1 k hlt)
      have HP := Lib.hid (may_pm HM.out hlt)
      by_cases h0 : (f k).1 = 0
      · have e0 : ((f k).1 == 0) = true := by simpa using h0
        have HS2 := Lib.hid (st_free HO.out (by rw [HS.out]; omega) h0).2
        have HB2 : Hid (b = (cellsL f (k + 1)).length) := Lib.hid (by
          rw [cellsL_len_succ, ← HB.out]
          have := mt (num_kind HP.out).1 (by omega)
          omega)
        clear h0
        go_wp2
        go_roundw
        case rel => exact ⟨k + 1, b, by omega, hb, by go_num, rfl, by go_num, HB2, HS2, HBr.out⟩
        case measure => simp [intOf]; omega
      · have e0 : ((f k).1 == 0) = false := by simpa using h0
        have hkind := kind_now HM.out hlt HS.out h0
        obtain ⟨wd, hwd⟩ : ∃ wd : Nat, wide f k = wd := ⟨(wide f k).toNat, by have := (wide_facts HM.out hlt hkind).1; omega⟩
        obtain ⟨hw1, hw2, hs2, hl2⟩ := wide_len HM.out hlt hkind hwd
        obtain ⟨num, HNum⟩ : ∃ num, Hid (num = numOf (f k)) := ⟨_, Lib.hid rfl⟩
        obtain ⟨room, HRm⟩ : ∃ room, Hid (room = roomOf (f k)) := ⟨_, Lib.hid rfl⟩
        have hnr := num_room HP.out
        have hw : (num : Int) * room = 16 * wd := by rw [HNum.out, HRm.out, num_words HP.out, wide_words hkind, hwd]
        have hr2 : 2 ≤ room := by
          rw [HRm.out]
          exact (num_some HP.out).resolve_right (by have := (num_kind HP.out).2 hkind; omega)
        rw [← HNum.out, ← HRm.out] at hnr
        have HW := Lib.hid hw
        have HS2 := Lib.hid hs2
        have HB2 : Hid (b + num = (cellsL f (k + wd)).length) := Lib.hid (by rw [hl2, ← HB.out, ← HNum.out])
        have hbm : b + num ≤ m := by
          rw [HB2.out, HL.out, allL_may HM.out]
          exact (cellsL_prefix f hw2).length_le
        clear h0 hkind hwd hs2 hl2 hw
        obtain ⟨wo, rfl⟩ : ∃ wo : World, wo = wr := ⟨_, rfl⟩
        go_wp2
        go_loopw [4, 6] (fun a i wi => ∃ (j : Nat) (x : Int), j ≤ num ∧ a = .int .i64 x ∧ i = .int .i64 (b + j : Nat) ∧ Hid (x = 16 + k * 16 + j * room) ∧ 0 ≤ x ∧ x ≤ 16 + k * 16 + 64 * j ∧ Below wo.heap.size wo wi) (fun _ i _ => b + num - (intOf i).toNat)
        case atStart => exact ⟨0, 16 + k * 16, Nat.zero_le _, by go_num, by simp, Lib.hid (by simp), by omega, by omega, Below.refl _ _⟩
        case round =>
          obtain ⟨j, x, hj, rfl, rfl, HX, hx0, hx1, hbi⟩ := hrel
          have HNi := Lib.hid (HNr.out.next hbi)
          have HRi := Lib.hid (HRr.out.over hbi hzr)
          have HBi := Lib.hid hbi
          have hzi := hbi.size
          clear hbi
          by_cases hltj : j < num
          · have hg : (allL f len)[b + j]? = some (x, room) := by
              have := allL_get HM.out hlt (j := j) (by rw [← HNum.out]; exact hltj)
              rw [← HB.out, ← HRm.out, ← HX.out] at this
              exact this
            obtain ⟨t1, t2, t3, t4, t5⟩ := cell_told hg
            have T1 := Lib.hid t1
            have T2 := Lib.hid t2
            have T3 := Lib.hid t3
            have T4 := Lib.hid t4
            have T5 := Lib.hid t5
            have hbm2 : b + j < m := by omega
            obtain ⟨b', off', rfl, hb', hc'⟩ := HRi.out.2 (by omega)
            have c1 := hc' (b + j) hbm2
            rw [allS_get hg] at c1
            simp only at c1
            have hbw2 : b' < wr.heap.size := by omega
            have hx32 : x < 32 + 16 * (k : Int) := by
              have h1 := step_in HP.out (j := j) (by rw [← HNum.out]; exact hltj)
              rw [← HRm.out] at h1
              have h2 := HX.out
              omega
            have HL2 := Lib.hid (show ((j + 1 : Nat) : Int) * room = j * room + room by rw [Int.natCast_add, Int.add_mul]; simp)
            have dm : decide (m ≤ b + j) = false := by simp; omega
            clear hc' hg t1 t2 t3 t4 t5
            go_wp2_with fail
            refine (HNi.out.room cap x room T1.out hn').mono ?_
            rintro e w4 ⟨rfl, hb4⟩
            have HN4 := Lib.hid (HNi.out.next hb4)
            have HB4 := Lib.hid (HBi.out.trans (hb4.mono hzi))
            have hz4 := HB4.out.size
            clear hb4
            go_wp2_with fail
            refine (HN4.out.room cap x room T1.out hn').mono ?_
            rintro e w5 ⟨rfl, hb5⟩
            have HN5 := Lib.hid (HN4.out.next hb5)
            have HB5 := Lib.hid (HB4.out.trans (hb5.mono hz4))
            have hz5 := HB5.out.size
            clear hb5
            go_wp2_with fail
            refine (HN5.out.start cap x x true T2.out T3.out hn').mono ?_
            rintro e w6 ⟨rfl, hb6⟩
            have HN6 := Lib.hid (HN5.out.next hb6)
            have HB6 := Lib.hid (HB5.out.trans (hb6.mono hz5))
            have hz6 := HB6.out.size
            clear hb6
            go_wp2_with fail
            refine (HN6.out.start cap (x + room - 1) x true T4.out T5.out hn').mono ?_
            rintro e w7 ⟨rfl, hb7⟩
            have HB7 := Lib.hid (HB6.out.trans (hb7.mono hz6))
            clear hb7
            go_wp2
            go_roundw
            case rel => exact ⟨j + 1, x + room, by omega, by go_num, by go_num, Lib.hid (by rw [HX.out, HL2.out]; omega), by omega, by omega, HB7.out⟩
            case measure => simp [intOf]; omega
          · obtain rfl : j = num := by omega
            have hx : x = 16 + 16 * ((k + wd : Nat) : Int) := by
              have h1 := HX.out
              have h2 := HW.out
              omega
            have hx32 : 32 + 16 * (k : Int) ≤ x := by omega
            have HXX := Lib.hid hx
            clear hx
            go_wp2
            go_roundw
            case rel => exact ⟨k + wd, b + j, hw2, hbm, by rw [HXX.out], rfl, by rw [HXX.out]; congr 1; omega, HB2, HS2, HBr.out.trans (HBi.out.mono hzr)⟩
            case measure => simp [intOf]; have := HXX.out; omega
    · obtain rfl : k = len := by omega
      have HE : Hid (b = m) := Lib.hid (by rw [HB.out, HL.out, allL_may HM.out])
      obtain ⟨o1, o2⟩ := none_out (f := f) (n := k) (x := 16 + 16 * (k : Int)) (.inr (Int.le_refl _))
      obtain ⟨o3, o4⟩ := none_out (f := f) (n := k) (x := 15) (.inl (by decide))
      have O1 := Lib.hid o1
      have O2 := Lib.hid o2
      have O3 := Lib.hid o3
      have O4 := Lib.hid o4
      clear o1 o2 o3 o4
      obtain rfl := HE.out
      clear HE
      go_wp2_with fail
      refine (HNr.out.start cap (16 + 16 * (k : Int)) 0 false O1.out O2.out hn').mono ?_
      rintro e w4 ⟨rfl, hb4⟩
      have HN4 := Lib.hid (HNr.out.next hb4)
      clear hb4
      go_wp2_with fail
      refine (HN4.out.start cap 15 0 false O3.out O4.out hn').mono ?_
      rintro e w5 ⟨rfl, hb5⟩
      have HN5 := Lib.hid (HN4.out.next hb5)
      clear hb5
      go_wp2
      go_ret
      exact ⟨rfl, HN5.out.bel⟩

set_option maxRecDepth 100000 in
theorem lifted (os : Os) (started : os.Started) (H : Type) (enc : TypeId × Value → H) :
    ReturnsInHanded {} Tryd.checked os 4 .any (fun w args => (Rows.cellsTileSpec.pre enc Tryd.prog Tryd.f4 [] false w args ∧ laidMetH Tryd.prog laidSizes w) ∧ sizedMet enc Tryd.prog Tryd.f4 (OpenSpec.ofChange Rows.cellsTileSpec) false w args)
      (Rows.cellsTileSpec.post enc Tryd.prog Tryd.f4 false true false false) := by
  refine returnsInHanded_of_change_and (C := Tryd.checked) (X := fun w _ => laidMetH Tryd.prog laidSizes w) (fun _ _ _ hh h => h.of_heap hh) own started (by kernel_rfl) Tryd.func4
    (ChangeSpec.witness_shaped (enc := enc) (C := Tryd.checked) (os := os) (X := fun w _ => laidMetH Tryd.prog laidSizes w) false (World.doorLaid Tryd.prog 400 os) #[.slice none 0 0] 8 rfl (World.shaped_of_RefB (by kernel_rfl) (by kernel_rfl)) (by kernel_rfl) (by kernel_rfl) (by kernel_rfl) (door_met os _)) ?_
  intro W base args ds gs before hval0 hW _ _ hL _
  have hval : ∀ (j : Nat) t v, Tryd.f4.params[j]? = some t → args[j]? = some v → Value.okWide Tryd.prog W .any base t v := hval0
  have hW' := hW
  obtain ⟨p, q, hA0, hV, rfl, hfz, hnd⟩ := hW
  have hA : DataW.TrodAll enc Tryd.prog W 0 (fun _ => true) true Tryd.f4.params.toList args.toList ds p := hA0
  rw [Tryd.params4] at hA hval
  obtain ⟨v0, vs0, d0, ds0, p0, q0, hargs, rfl, rfl, h0, r0⟩ := trodAll_cons hA
  obtain ⟨rfl, rfl, rfl⟩ := trodAll_nil r0
  obtain rfl : args = #[v0] := by cases args; simp_all
  obtain ⟨rfl, rfl⟩ := trodVars_none hV
  obtain ⟨a0, len0, cap0, rfl⟩ := okWide_slice Tryd.underlying22 (hval 0 22 v0 rfl rfl)
  have k0 := h0
  have lt0 : ∀ x ∈ p0, x.block < W.heap.size := by obtain ⟨m, hm⟩ := k0; exact DataW.trod_lt m _ _ _ hm
  obtain ⟨z0, w0⟩ : ∃ f, PIn W a0 len0 cap0 f := pin_of h0
  clear hA0 hval0
  refine (walk a0 len0 cap0 z0 W (of_laid hL) w0).mono fun e W' ⟨he, bel⟩ => ?_
  subst he
  exact ⟨_, rfl, _, _, _, [], _, [], hW', trodAll_mk1 (shut_bool Tryd.underlying4 _), (trodAll_cons_mk (Below.trod laidOut (by kernel_rfl) (of_decide_eq_true (by kernel_rfl)) k0 bel lt0) trodAll_mk0), rfl, bel.frame _, fun h => by cases h⟩

theorem over : Rows.CellsTileSaid :=
  OpenClaim.holds_of_wide 4 Tryd.f4 rfl rfl rfl rfl rfl rfl rfl ⟨rfl, rfl, rfl, rfl, rfl⟩ rfl rfl rfl rfl rfl (by kernel_rfl) Tryd.func4 (by kernel_rfl)
    (of_decide_eq_true (by kernel_rfl)) (by unfold Func.isWrapper; first | (rw [if_pos (by decide +kernel)]; kernel_rfl) | (rw [if_neg (by decide +kernel)]; exact ⟨rfl, rfl⟩))
    (fun os started H enc _ => lifted os started H enc)

/-- The statement: the card. -/
theorem proved : Rows.CellsTileCardSaid :=
  Claim7.holds_tied_plain_at .later [] [.data] true Rows.cellsTileCard.stood.harness false
    over (fun _ h => by cases h) (by kernel_rfl) (fun _ h => by cases h) cellsTile_row_tie rfl ⟨rfl, rfl⟩ (by kernel_rfl) rfl
    (fun f fn hf hfn => by
      obtain rfl : f = 4 := Option.some.inj ((show Tryd.prog.funcNamed "ragpicker/ragpickerlaw05.CellsTile" = some 4 by kernel_rfl).symm.trans hf) |>.symm
      obtain rfl : fn = Tryd.f4 := (Option.some.inj (Tryd.func4.symm.trans hfn)).symm
      exact ⟨by kernel_rfl, fun j t ht => by
        rw [Tryd.params4] at ht
        have hm : t ∈ [22] := by simpa using Array.mem_of_getElem? ht
        have hall : ([22].all fun u => !Tryd.prog.wantsStandIn u) = true := by kernel_rfl
        exact (show Tryd.prog.wantsStandIn t = false by simpa using List.all_eq_true.1 hall t hm)⟩)
    (by kernel_rfl)
#print axioms proved
end Go.Proofs.YtlmaeppckaempaaDoor.CellsTile
