/-
  CellsRooms: all cells' rooms, and a page for each that is free, are all words: for every slice of at most 64 pages; the table of sizes is tied to the program's text by the card.
-/
import Derived.Test.YtlmaeppckaempaaDoorClFrame
namespace Go.Proofs.YtlmaeppckaempaaDoor.CellsRooms
open Go.Proofs.YtlmaeppckaempaaDoor
open Go.ChangeShapes Go.WideShapes Go.ChangeAt Go.RowKit

/-- The rooms of the first j cells. -/
def sumT (L : List (Int × Int)) (j : Nat) : Int := ((L.take j).map (·.2)).sum
theorem sumT_next {L : List (Int × Int)} {j : Nat} {c : Int × Int} (h : L[j]? = some c) : sumT L (j + 1) = sumT L j + c.2 := by
  unfold sumT
  rw [take_next h]
  simp
theorem sumT_bound {L : List (Int × Int)} (hL : Bounded L) : ∀ j : Nat, j ≤ L.length → 0 ≤ sumT L j ∧ sumT L j ≤ 100 * j
  | 0, _ => by simp [sumT]
  | j + 1, h => by
    have := sumT_bound hL j (by omega)
    rw [sumT_next (List.getElem?_eq_getElem (show j < L.length by omega))]
    have := hL _ (List.getElem_mem (show j < L.length by omega))
    omega
theorem sum_pageL (k num : Nat) (room : Int) : ((pageL k num room).map (·.2)).sum = num * room := by
  unfold pageL
  rw [List.map_map]
  have : ((fun c : Int × Int => c.2) ∘ fun (j : Nat) => ((16 + (k : Int) * 16 + (j : Int) * room, room) : Int × Int)) = fun _ => room := rfl
  rw [this]
  induction num with
  | zero => simp
  | succ n ih => rw [List.range_succ, List.map_append, List.sum_append, ih, Int.natCast_add, Int.add_mul]; simp
theorem sum_cells {f : Nat → Int × Int} {n : Nat} (hf : ∀ k, k < n → okB f k = true) : ∀ k, k ≤ n → 16 * cnt f 0 k + ((cellsL f k).map (·.2)).sum = 16 * k + 16 * st f k
  | 0, _ => by simp [cnt, cellsL, st]
  | k + 1, hk => by
    have ih := sum_cells hf k (by omega)
    have ho := hf k (by omega)
    have hp := ((okB_iff f k).1 ho).1
    have hs := (st_nonneg hf k (by omega)).1
    rw [cellsL_succ, List.map_append, List.sum_append, sum_pageL, num_words hp]
    by_cases e : (f k).1 = 0
    · have := st_free ho hs e
      rw [cnt_hit e]
      unfold wordsIn
      rw [if_neg (by omega), if_neg (by omega)]
      omega
    · have := st_words ho hs e
      rw [cnt_miss e]
      omega
theorem sum_all {f : Nat → Int × Int} {n : Nat} (h : mayB f n = true) : 16 * cnt f 0 n + sumT (allL f n) (allL f n).length = 16 * n := by
  obtain ⟨_, _, h2, h3⟩ := (mayB_iff f n).1 h
  have := sum_cells h2 n (Nat.le_refl _)
  unfold sumT
  rw [List.take_of_length_le (Nat.le_refl _), allL_may h]
  omega

theorem early (A : Option Addr) (len cap : Nat) (f : Nat → Int × Int) (w : World) (hz : Sz w) (hp : PIn w A len cap f) (h : 64 < len ∨ mayB f len = false) :
    Calls Tryd.prog 9 #[.slice A len cap] w fun e w' => e = .returned (.bool true) ∧ Below w.heap.size w w' := by
  have HN := Lib.hid (Now.begin hz hp)
  have HZ := Lib.hid hz
  have hcl := hp.2.1
  have hcm := hp.2.2
  clear hz hp
  by_cases hlen : 64 < len
  · clear h
    go_enter Tryd.func9, Tryd.ntmps9
    go_wp2_with fail
    refine (awake_yes _ HZ.out).mono ?_
    rintro e w1 ⟨rfl, hb1⟩
    have HB := Lib.hid hb1
    clear hb1
    go_wp2
    go_ret
    exact ⟨rfl, HB.out⟩
  have hn : len ≤ 1000 := by omega
  have hM : mayB f len = false := h.resolve_left hlen
  have HM := Lib.hid hM
  clear hM h
  go_enter Tryd.func9, Tryd.ntmps9
  go_wp2_with fail
  refine (awake_yes _ HZ.out).mono ?_
  rintro e w1 ⟨rfl, hb1⟩
  have HN1 := Lib.hid (HN.out.next hb1)
  clear hb1
  go_wp2_with fail
  refine (HN1.out.mayNo cap HM.out hn).mono ?_
  rintro e w2 ⟨rfl, hb2⟩
  have HN2 := Lib.hid (HN1.out.next hb2)
  clear hb2
  go_wp2
  go_ret
  exact ⟨rfl, HN2.out.bel⟩

theorem allS_len (f : Nat → Int × Int) (n : Nat) : (allS f n).length = (allL f n).length := by simp [allS]
theorem allS_get {f : Nat → Int × Int} {n j : Nat} {c : Int × Int} (h : (allL f n)[j]? = some c) : (allS f n).getD j 0 = c.1 := by
  simp [allS, List.getD, h]

set_option maxHeartbeats 1000000 in
theorem walk (A : Option Addr) (len cap : Nat) (f : Nat → Int × Int) (w : World) (hz : Sz w) (hp : PIn w A len cap f) :
    Calls Tryd.prog 9 #[.slice A len cap] w fun e w' => e = .returned (.bool true) ∧ Below w.heap.size w w' := by
  by_cases hearly : 64 < len ∨ mayB f len = false
  · exact early A len cap f w hz hp hearly
  have hM : mayB f len = true := by
    cases h : mayB f len
    · exact absurd (.inr h) hearly
    · rfl
  have hn : len ≤ 64 := by omega
  have hn' : len ≤ 1000 := by omega
  have HN := Lib.hid (Now.begin hz hp)
  have HZ := Lib.hid hz
  have hcl := hp.2.1
  have hcm := hp.2.2
  have HM := Lib.hid hM
  have HS := Lib.hid (sum_all hM)
  obtain ⟨hc0, hc1⟩ := cnt_bd f 0 len
  obtain ⟨m, HL⟩ : ∃ m, Hid (m = (allL f len).length) := ⟨_, Lib.hid rfl⟩
  have hm : m ≤ 512 := by rw [HL.out]; exact allL_length f len
  obtain ⟨free, HF⟩ : ∃ free, Hid (free = cnt f 0 len) := ⟨_, Lib.hid rfl⟩
  rw [← HF.out] at hc0 hc1
  clear hz hp hM hearly
  go_enter Tryd.func9, Tryd.ntmps9
  go_wp2_with fail
  refine (awake_yes _ HZ.out).mono ?_
  rintro e w1 ⟨rfl, hb1⟩
  have HN1 := Lib.hid (HN.out.next hb1)
  clear hb1
  go_wp2_with fail
  refine (HN1.out.mayYes cap HM.out).mono ?_
  rintro e w2 ⟨rfl, hb2⟩
  have HN2 := Lib.hid (HN1.out.next hb2)
  clear hb2
  go_wp2_with fail
  refine (HN2.out.all cap hn').mono ?_
  rintro e w3 ⟨a3, c3, rfl, hr3, hc3, hm3, hb3⟩
  have HN3 := Lib.hid (HN2.out.next hb3)
  rw [allS_len, ← HL.out] at hr3 hc3 ⊢
  have HR := Lib.hid hr3
  clear hb3 hr3
  go_wp2_with fail
  refine (count_any w.heap.size _ _ _ f 0 w3 hn' HN3.out.row HN3.out.bel.size).mono ?_
  rintro e w4 ⟨rfl, hb4⟩
  have HN4 := Lib.hid (HN3.out.next hb4)
  have HR4 := Lib.hid (HR.out.below hb4)
  have hz4 := hb4.size
  rw [← HF.out]
  clear hb4
  go_wp2
  go_loopw [5, 6] (fun s i wr => ∃ (j : Nat) (x : Int), j ≤ m ∧ i = .int .i64 j ∧ s = .int .i64 x ∧ Hid (x = 16 * free + sumT (allL f len) j) ∧ 0 ≤ x ∧ x ≤ 16 * free + 100 * j ∧ Below w4.heap.size w4 wr) (fun _ i _ => m - (intOf i).toNat)
  case atStart => exact ⟨0, 16 * free, Nat.zero_le _, rfl, by go_num, Lib.hid (by simp [sumT]), by omega, by omega, Below.refl _ _⟩
  case round =>
    obtain ⟨j, x, hj, rfl, rfl, HX, hx0, hx1, hbr⟩ := hrel
    have HNr := Lib.hid (HN4.out.next hbr)
    have HRr := Lib.hid (HR4.out.over hbr hz4)
    have HBr := Lib.hid hbr
    have hzr := hbr.size
    clear hbr
    by_cases hlt : j < m
    · obtain ⟨b, off, rfl, hb, hc⟩ := HRr.out.2 (by omega)
      have c0 := hc j hlt
      obtain ⟨⟨q, r⟩, hg⟩ : ∃ c, (allL f len)[j]? = some c := ⟨_, List.getElem?_eq_getElem (by rw [← HL.out]; exact hlt)⟩
      rw [allS_get hg] at c0
      simp only at c0
      have hbd := allL_bounds f len _ (List.mem_of_getElem? hg)
      simp only at hbd
      have HV := Lib.hid (show (foundV (allL f len) (pAt q)).2 = r by
        have := (allL_apart f len).find_at (List.mem_of_getElem? hg) rfl
        simp only at this
        simp [foundV, this])
      have HT := Lib.hid (sumT_next hg)
      have hbw : b < wr.heap.size := by omega
      clear hc hg
      go_wp2_with fail
      refine (HNr.out.room cap q r HV.out hn').mono ?_
      rintro e w5 ⟨rfl, hb5⟩
      have HB5 := Lib.hid (HBr.out.trans (hb5.mono hzr))
      clear hb5
      go_wp2
      go_roundw
      case rel => exact ⟨j + 1, x + r, by omega, by go_num, by go_num, Lib.hid (by rw [HX.out, HT.out]; omega), by omega, by omega, HB5.out⟩
      case measure => simp [intOf]; omega
    · obtain rfl : j = m := by omega
      have hx : x = 16 * len := by
        have h1 := HX.out
        have h2 := HS.out
        rw [← HL.out, ← HF.out] at h2
        omega
      subst hx
      go_wp2
      go_ret
      exact ⟨rfl, HNr.out.bel⟩

set_option maxRecDepth 100000 in
theorem lifted (os : Os) (started : os.Started) (H : Type) (enc : TypeId × Value → H) :
    ReturnsInHanded {} Tryd.checked os 9 .any (fun w args => (Rows.cellsRoomsSpec.pre enc Tryd.prog Tryd.f9 [] false w args ∧ laidMetH Tryd.prog laidSizes w) ∧ sizedMet enc Tryd.prog Tryd.f9 (OpenSpec.ofChange Rows.cellsRoomsSpec) false w args)
      (Rows.cellsRoomsSpec.post enc Tryd.prog Tryd.f9 false true false false) := by
  refine returnsInHanded_of_change_and (C := Tryd.checked) (X := fun w _ => laidMetH Tryd.prog laidSizes w) (fun _ _ _ hh h => h.of_heap hh) own started (by kernel_rfl) Tryd.func9
    (ChangeSpec.witness_shaped (enc := enc) (C := Tryd.checked) (os := os) (X := fun w _ => laidMetH Tryd.prog laidSizes w) false (World.doorLaid Tryd.prog 400 os) #[.slice none 0 0] 8 rfl (World.shaped_of_RefB (by kernel_rfl) (by kernel_rfl)) (by kernel_rfl) (by kernel_rfl) (by kernel_rfl) (door_met os _)) ?_
  intro W base args ds gs before hval0 hW _ _ hL _
  have hval : ∀ (j : Nat) t v, Tryd.f9.params[j]? = some t → args[j]? = some v → Value.okWide Tryd.prog W .any base t v := hval0
  have hW' := hW
  obtain ⟨p, q, hA0, hV, rfl, hfz, hnd⟩ := hW
  have hA : DataW.TrodAll enc Tryd.prog W 0 (fun _ => true) true Tryd.f9.params.toList args.toList ds p := hA0
  rw [Tryd.params9] at hA hval
  obtain ⟨v0, vs0, d0, ds0, p0, q0, hargs, rfl, rfl, h0, r0⟩ := trodAll_cons hA
  obtain ⟨rfl, rfl, rfl⟩ := trodAll_nil r0
  obtain rfl : args = #[v0] := by cases args; simp_all
  obtain ⟨rfl, rfl⟩ := trodVars_none hV
  obtain ⟨a0, len0, cap0, rfl⟩ := okWide_slice Tryd.underlying22 (hval 0 22 v0 rfl rfl)
  have k0 := h0
  have lt0 : ∀ x ∈ p0, x.block < W.heap.size := by obtain ⟨m, hm⟩ := k0; exact DataW.trod_lt m _ _ _ hm
  obtain ⟨z0, w0⟩ : ∃ f, PIn W a0 len0 cap0 f := pin_of h0
  clear hA0 hval0
  refine (walk a0 len0 cap0 z0 W (of_laid hL) w0).mono fun e W' ⟨he, bel⟩ => ?_
  subst he
  exact ⟨_, rfl, _, _, _, [], _, [], hW', trodAll_mk1 (shut_bool Tryd.underlying4 _), (trodAll_cons_mk (Below.trod laidOut (by kernel_rfl) (of_decide_eq_true (by kernel_rfl)) k0 bel lt0) trodAll_mk0), rfl, bel.frame _, fun h => by cases h⟩

theorem over : Rows.CellsRoomsSaid :=
  OpenClaim.holds_of_wide 9 Tryd.f9 rfl rfl rfl rfl rfl rfl rfl ⟨rfl, rfl, rfl, rfl, rfl⟩ rfl rfl rfl rfl rfl (by kernel_rfl) Tryd.func9 (by kernel_rfl)
    (of_decide_eq_true (by kernel_rfl)) (by unfold Func.isWrapper; first | (rw [if_pos (by decide +kernel)]; kernel_rfl) | (rw [if_neg (by decide +kernel)]; exact ⟨rfl, rfl⟩))
    (fun os started H enc _ => lifted os started H enc)

/-- The statement: the card. -/
theorem proved : Rows.CellsRoomsCardSaid :=
  Claim7.holds_tied_plain_at .later [] [.data] true Rows.cellsRoomsCard.stood.harness false
    over (fun _ h => by cases h) (by kernel_rfl) (fun _ h => by cases h) cellsRooms_row_tie rfl ⟨rfl, rfl⟩ (by kernel_rfl) rfl
    (fun f fn hf hfn => by
      obtain rfl : f = 9 := Option.some.inj ((show Tryd.prog.funcNamed "ragpicker/ragpickerlaw05.CellsRooms" = some 9 by kernel_rfl).symm.trans hf) |>.symm
      obtain rfl : fn = Tryd.f9 := (Option.some.inj (Tryd.func9.symm.trans hfn)).symm
      exact ⟨by kernel_rfl, fun j t ht => by
        rw [Tryd.params9] at ht
        have hm : t ∈ [22] := by simpa using Array.mem_of_getElem? ht
        have hall : ([22].all fun u => !Tryd.prog.wantsStandIn u) = true := by kernel_rfl
        exact (show Tryd.prog.wantsStandIn t = false by simpa using List.all_eq_true.1 hall t hm)⟩)
    (by kernel_rfl)
#print axioms proved
end Go.Proofs.YtlmaeppckaempaaDoor.CellsRooms
