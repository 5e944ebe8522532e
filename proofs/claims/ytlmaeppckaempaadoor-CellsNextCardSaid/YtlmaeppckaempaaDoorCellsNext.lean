/-
  CellsNext: by the next one, from none on, just all cells are told, rising; each page's are those that begin on it: for every slice of at most 64 pages; the table of sizes is tied to the program's text by the card.
-/
import Derived.Test.YtlmaeppckaempaaDoorClFrame
import Derived.Test.YtlmaeppckaempaaDoorClApp
namespace Go.Proofs.YtlmaeppckaempaaDoor.CellsNext
open Go.Proofs.YtlmaeppckaempaaDoor
open Go.ChangeShapes Go.WideShapes Go.ChangeAt Go.RowKit

/-- Where cell j begins; 0, if there is none. -/
def nth (L : List (Int × Int)) (j : Nat) : Int := ((L[j]?).getD (0, 0)).1
theorem up_first (f : Nat → Int × Int) (n : Nat) : (foundV (allL f n) (pUp 0)).1 = nth (allL f n) 0 ∧ foundS (allL f n) (pUp 0) = decide (0 < (allL f n).length) := by
  have h := (allL_apart f n).find_first (x := 0) (by decide)
  refine ⟨by simp [foundV, nth, h], ?_⟩
  unfold foundS
  rw [h]
  cases allL f n <;> simp
theorem up_next {f : Nat → Int × Int} {n j : Nat} {c : Int × Int} (hc : (allL f n)[j]? = some c) : (foundV (allL f n) (pUp c.1)).1 = nth (allL f n) (j + 1) ∧ foundS (allL f n) (pUp c.1) = decide (j + 1 < (allL f n).length) := by
  have h := (allL_apart f n).find_up hc
  refine ⟨by simp [foundV, nth, h], ?_⟩
  unfold foundS
  rw [h]
  by_cases e : j + 1 < (allL f n).length
  · rw [List.getElem?_eq_getElem e]
    simp [e]
  · rw [List.getElem?_eq_none (by omega)]
    simp; omega
theorem nth_of {L : List (Int × Int)} {j : Nat} {c : Int × Int} (h : L[j]? = some c) : nth L j = c.1 := by simp [nth, h]
theorem allS_len (f : Nat → Int × Int) (n : Nat) : (allS f n).length = (allL f n).length := by simp [allS]
theorem allS_next {f : Nat → Int × Int} {n j : Nat} {c : Int × Int} (h : (allL f n)[j]? = some c) : (allS f n).take (j + 1) = (allS f n).take j ++ [c.1] := take_next (by simp [allS, h])
/-- The cells of each page, one page behind the other. -/
def catS (f : Nat → Int × Int) (n : Nat) : Nat → List Int
  | 0 => []
  | k + 1 => catS f n k ++ onS f n k
theorem onS_short (f : Nat → Int × Int) (n : Nat) (a : Int) : (onS f n a).length ≤ 8 := by
  unfold onS
  split
  · next h => rw [List.length_map, pageL_length]; exact (num_room (may_pm h.1 (by omega))).1
  · simp
theorem catS_short (f : Nat → Int × Int) (n : Nat) : ∀ k, (catS f n k).length ≤ 8 * k
  | 0 => by simp [catS]
  | k + 1 => by
    have := catS_short f n k
    have := onS_short f n k
    show (catS f n k ++ onS f n k).length ≤ _
    rw [List.length_append]
    omega
theorem catS_all (f : Nat → Int × Int) (n : Nat) : catS f n n = allS f n := by
  cases h : mayB f n
  · have : ∀ k, catS f n k = [] := fun k => by
      induction k with
      | zero => rfl
      | succ k ih =>
        show catS f n k ++ onS f n k = []
        rw [ih]
        unfold onS
        rw [if_neg (by rw [h]; simp)]
        rfl
    rw [this]
    simp [allS, allL_no h]
  · have : ∀ k, k ≤ n → catS f n k = (cellsL f k).map (·.1) := fun k => by
      induction k with
      | zero => intro _; rfl
      | succ k ih =>
        intro hk
        show catS f n k ++ onS f n k = _
        rw [ih (by omega), cellsL_succ, List.map_append]
        unfold onS
        rw [if_pos ⟨h, by omega, by omega⟩, Int.toNat_natCast]
    rw [this n (Nat.le_refl _)]
    simp [allS, allL_may h]

theorem early (A : Option Addr) (len cap : Nat) (f : Nat → Int × Int) (w : World) (hz : Sz w) (hp : PIn w A len cap f) (hlen : 64 < len) :
    Calls Tryd.prog 5 #[.slice A len cap] w fun e w' => e = .returned (.bool true) ∧ Below w.heap.size w w' := by
  have HZ := Lib.hid hz
  have hcl := hp.2.1
  have hcm := hp.2.2
  clear hz hp
  go_enter Tryd.func5, Tryd.ntmps5
  go_wp2_with fail
  refine (awake_yes _ HZ.out).mono ?_
  rintro e w1 ⟨rfl, hb1⟩
  have HB := Lib.hid hb1
  clear hb1
  go_wp2
  go_ret
  exact ⟨rfl, HB.out⟩

set_option maxRecDepth 100000 in
set_option maxHeartbeats 2000000 in
theorem walk (A : Option Addr) (len cap : Nat) (f : Nat → Int × Int) (w : World) (hz : Sz w) (hp : PIn w A len cap f) :
    Calls Tryd.prog 5 #[.slice A len cap] w fun e w' => e = .returned (.bool true) ∧ Below w.heap.size w w' := by
  by_cases hlen : 64 < len
  · exact early A len cap f w hz hp hlen
  have hn : len ≤ 64 := by omega
  have hn' : len ≤ 1000 := by omega
  have hp0 := hz.pos
  have HN := Lib.hid (Now.begin hz hp)
  have HZ := Lib.hid hz
  have hcl := hp.2.1
  have hcm := hp.2.2
  obtain ⟨m, HL⟩ : ∃ m, Hid (m = (allL f len).length) := ⟨_, Lib.hid rfl⟩
  have hm : m ≤ 512 := by rw [HL.out]; exact allL_length f len
  have HU0 : Hid ((foundV (allL f len) (pUp 0)).1 = nth (allL f len) 0) := Lib.hid (up_first f len).1
  have HU1 : Hid (foundS (allL f len) (pUp 0) = decide (0 < m)) := Lib.hid (by rw [HL.out]; exact (up_first f len).2)
  clear hz hp hlen
  go_enter Tryd.func5, Tryd.ntmps5
  go_wp2_with fail
  refine (awake_yes _ HZ.out).mono ?_
  rintro e w1 ⟨rfl, hb1⟩
  have HN1 := Lib.hid (HN.out.next hb1)
  clear hb1
  go_wp2_with fail
  refine (HN1.out.up cap 0 _ _ HU0.out HU1.out hn').mono ?_
  rintro e w2 ⟨rfl, hb2⟩
  have HN2 := Lib.hid (HN1.out.next hb2)
  clear hb2
  go_wp2
  go_loopw [4, 5, 6, 7] (fun o a s i wr => ∃ (j : Nat), j ≤ m ∧ i = .int .i64 j ∧ a = .int .i64 (nth (allL f len) j) ∧ s = .bool (decide (j < m)) ∧ Hid (Lst w.heap.size wr o ((allS f len).take j)) ∧ Hid (Now w wr A len f)) (fun _ _ _ i _ => m - (intOf i).toNat)
  case atStart => exact ⟨0, Nat.zero_le _, rfl, rfl, by simp, Lib.hid (Lst.nil _ _), HN2⟩
  case round =>
    obtain ⟨j, hj, rfl, rfl, rfl, HO, HNr⟩ := hrel
    by_cases hlt : j < m
    · have dj : decide (j < m) = true := by simpa using hlt
      obtain ⟨⟨q, r⟩, hg⟩ : ∃ c, (allL f len)[j]? = some c := ⟨_, List.getElem?_eq_getElem (by rw [← HL.out]; exact hlt)⟩
      have hq := nth_of hg
      simp only at hq
      rw [hq]
      have HT := Lib.hid (allS_next hg)
      have HV : Hid ((foundV (allL f len) (pUp q)).1 = nth (allL f len) (j + 1)) := Lib.hid (up_next hg).1
      have HV2 : Hid (foundS (allL f len) (pUp q) = decide (j + 1 < m)) := Lib.hid (by rw [HL.out]; exact (up_next hg).2)
      obtain ⟨q2, HQ2⟩ : ∃ q2, Hid (nth (allL f len) (j + 1) = q2) := ⟨_, Lib.hid rfl⟩
      have hle : ((allS f len).take j).length ≤ 1000 := by rw [List.length_take, allS_len]; have := allL_length f len; omega
      have hrise : j + 1 < m → q < q2 := by
        intro h
        obtain ⟨⟨q', r'⟩, hg'⟩ : ∃ c, (allL f len)[j + 1]? = some c := ⟨_, List.getElem?_eq_getElem (by rw [← HL.out]; exact h)⟩
        have h1 := (allL_apart f len).rise (by omega) hg hg'
        have h2 := ((allL_apart f len).2 _ (List.mem_of_getElem? hg)).2
        have h3 := nth_of hg'
        rw [HQ2.out] at h3
        simp only at h1 h2 h3
        omega
      clear hg hq
      by_cases hj1 : j + 1 < m
      · have dj1 : decide (j + 1 < m) = true := by simpa using hj1
        have hq2 := hrise hj1
        have DJ := Lib.hid dj1
        clear hrise dj1
        go_wp2_with (at_builtin; refine list_cat rfl _ _ rfl rfl rfl rfl (HO.out.over ((Below.refl _ _).alloc (Nat.le_refl _) _)) (row_lit1 _ q) (by have := HNr.out.bel.size; simp; omega) (by simp only [List.length_singleton]; omega) ?_; intro v' w4 hl4 hb4)
        have HN4 := Lib.hid ((HNr.out.alloc _).step hb4 (Nat.le_refl _) hp0)
        have HO4 := Lib.hid hl4
        clear hb4 hl4 HO HNr
        refine (HN4.out.up cap q q2 true (by rw [HV.out, HQ2.out]) (by rw [HV2.out, DJ.out]) hn').mono ?_
        rintro e w5 ⟨rfl, hb5⟩
        have HN5 := Lib.hid (HN4.out.next hb5)
        have HO5 := Lib.hid (HO4.out.over hb5)
        clear hb5 HO4 HN4
        go_wp2
        go_roundw
        case rel => exact ⟨j + 1, by omega, by go_num, by rw [HQ2.out], by rw [DJ.out], Lib.hid (by rw [HT.out]; exact HO5.out), HN5⟩
        case measure => simp [intOf]; omega
      · have dj1 : decide (j + 1 < m) = false := by simpa using hj1
        have DJ := Lib.hid dj1
        clear hrise dj1
        go_wp2_with (at_builtin; refine list_cat rfl _ _ rfl rfl rfl rfl (HO.out.over ((Below.refl _ _).alloc (Nat.le_refl _) _)) (row_lit1 _ q) (by have := HNr.out.bel.size; simp; omega) (by simp only [List.length_singleton]; omega) ?_; intro v' w4 hl4 hb4)
        have HN4 := Lib.hid ((HNr.out.alloc _).step hb4 (Nat.le_refl _) hp0)
        have HO4 := Lib.hid hl4
        clear hb4 hl4 HO HNr
        refine (HN4.out.up cap q q2 false (by rw [HV.out, HQ2.out]) (by rw [HV2.out, DJ.out]) hn').mono ?_
        rintro e w5 ⟨rfl, hb5⟩
        have HN5 := Lib.hid (HN4.out.next hb5)
        have HO5 := Lib.hid (HO4.out.over hb5)
        clear hb5 HO4 HN4
        go_wp2
        go_roundw
        case rel => exact ⟨j + 1, by omega, by go_num, by rw [HQ2.out], by rw [DJ.out], Lib.hid (by rw [HT.out]; exact HO5.out), HN5⟩
        case measure => simp [intOf]; omega
    · obtain rfl : j = m := by omega
      have dj : decide (j < j) = false := by simp
      have hlS : (allS f len).length = j := by rw [allS_len, HL.out]
      have hO := HO.out
      rw [List.take_of_length_le (by omega)] at hO
      obtain ⟨a1, c1, rfl, hr1, hc1, hcm1⟩ := hO.row
      rw [hlS] at hr1 hc1
      rw [hlS]
      have HR1 := Lib.hid hr1
      have HS := Lib.hid hlS
      clear hr1 hO hlS HO
      obtain ⟨wo, rfl⟩ : ∃ wo : World, wo = wr := ⟨_, rfl⟩
      have hzo := HNr.out.bel.size
      go_wp2
      go_loopw [10, 11] (fun t p wi => ∃ (k : Nat), k ≤ len ∧ p = .int .i64 k ∧ Hid (Lst wo.heap.size wi t (catS f len k)) ∧ Hid (Below wo.heap.size wo wi)) (fun _ p _ => len - (intOf p).toNat)
      case atStart => exact ⟨0, Nat.zero_le _, rfl, Lib.hid (Lst.nil _ _), Lib.hid (Below.refl _ _)⟩
      case round =>
        obtain ⟨k, hk, rfl, HT, HBi⟩ := hrel
        have HNi := Lib.hid (HNr.out.step HBi.out hzo hp0)
        have hzi := HBi.out.size
        by_cases hlt2 : k < len
        · have hsh := catS_short f len k
          have hos := onS_short f len k
          go_wp2_with fail
          refine (HNi.out.on cap k hn').mono ?_
          rintro e w4 hl
          obtain ⟨a4, c4, rfl, hr4, hc4, hcm4, hb4⟩ := hl
          have HR4 := Lib.hid hr4
          have HT4 := Lib.hid (HT.out.over hb4)
          have HB4 := Lib.hid (HBi.out.trans (hb4.mono hzi))
          have hz4 := HB4.out.size
          clear hr4 hb4
          go_wp2_with (at_builtin; refine list_cat rfl _ _ rfl rfl rfl rfl HT4.out HR4.out (by omega) (by omega) ?_; intro v' w5 hl5 hb5)
          have HT5 : Hid (Lst wo.heap.size w5 v' (catS f len (k + 1))) := Lib.hid hl5
          have HB5 := Lib.hid (HB4.out.trans hb5)
          clear hl5 hb5
          exact ⟨⟨k + 1, by omega, by go_num, HT5, HB5⟩, by simp [intOf]; omega⟩
        · obtain rfl : k = len := by omega
          have hT := HT.out
          rw [catS_all] at hT
          obtain ⟨a2, c2, rfl, hr2, hc2, hcm2⟩ := hT.row
          rw [HS.out] at hr2 hc2
          rw [HS.out]
          have HR2 := Lib.hid hr2
          have HR1i := Lib.hid (HR1.out.below HBi.out)
          clear hr2 hT HT
          go_wp2_with fail
          refine (HNi.out.all cap hn').mono ?_
          rintro e w4 ⟨a4, c4, rfl, hr4, hc4, hcm4, hb4⟩
          rw [HS.out] at hr4 hc4
          rw [HS.out]
          have HN4 := Lib.hid (HNi.out.next hb4)
          have HR4 := Lib.hid hr4
          have HR14 := Lib.hid (HR1i.out.over hb4 hzi)
          have HR24 := Lib.hid (HR2.out.over hb4 (Nat.le_refl _))
          have hz4 := hb4.size
          clear hr4 hb4
          go_wp2_with fail
          refine (ints_same _ _ _ _ _ _ _ (allS f k) _ (by omega) HR14.out HR4.out).mono ?_
          rintro e w5 ⟨rfl, hb5⟩
          have HN5 := Lib.hid (HN4.out.next hb5)
          have HR25 := Lib.hid (HR24.out.over hb5 hz4)
          have HR45 := Lib.hid (HR4.out.over hb5 (Nat.le_refl _))
          clear hb5
          go_wp2_with fail
          refine (ints_same _ _ _ _ _ _ _ (allS f k) _ (by omega) HR25.out HR45.out).mono ?_
          rintro e w6 ⟨rfl, hb6⟩
          have HN6 := Lib.hid (HN5.out.next hb6)
          clear hb6
          go_wp2
          go_ret
          exact ⟨rfl, HN6.out.bel⟩

set_option maxRecDepth 100000 in
theorem lifted (os : Os) (started : os.Started) (H : Type) (enc : TypeId × Value → H) :
    ReturnsInHanded {} Tryd.checked os 5 .any (fun w args => (Rows.cellsNextSpec.pre enc Tryd.prog Tryd.f5 [] false w args ∧ laidMetH Tryd.prog laidSizes w) ∧ sizedMet enc Tryd.prog Tryd.f5 (OpenSpec.ofChange Rows.cellsNextSpec) false w args)
      (Rows.cellsNextSpec.post enc Tryd.prog Tryd.f5 false true false false) := by
  refine returnsInHanded_of_change_and (C := Tryd.checked) (X := fun w _ => laidMetH Tryd.prog laidSizes w) (fun _ _ _ hh h => h.of_heap hh) own started (by kernel_rfl) Tryd.func5
    (ChangeSpec.witness_shaped (enc := enc) (C := Tryd.checked) (os := os) (X := fun w _ => laidMetH Tryd.prog laidSizes w) false (World.doorLaid Tryd.prog 400 os) #[.slice none 0 0] 8 rfl (World.shaped_of_RefB (by kernel_rfl) (by kernel_rfl)) (by kernel_rfl) (by kernel_rfl) (by kernel_rfl) (door_met os _)) ?_
  intro W base args ds gs before hval0 hW _ _ hL _
  have hval : ∀ (j : Nat) t v, Tryd.f5.params[j]? = some t → args[j]? = some v → Value.okWide Tryd.prog W .any base t v := hval0
  have hW' := hW
  obtain ⟨p, q, hA0, hV, rfl, hfz, hnd⟩ := hW
  have hA : DataW.TrodAll enc Tryd.prog W 0 (fun _ => true) true Tryd.f5.params.toList args.toList ds p := hA0
  rw [Tryd.params5] at hA hval
  obtain ⟨v0, vs0, d0, ds0, p0, q0, hargs, rfl, rfl, h0, r0⟩ := trodAll_cons hA
  obtain ⟨rfl, rfl, rfl⟩ := trodAll_nil r0
  obtain rfl : args = #[v0] := by cases args; simp_all
  obtain ⟨rfl, rfl⟩ := trodVars_none hV
  obtain ⟨a0, len0, cap0, rfl⟩ := okWide_slice Tryd.underlying22 (hval 0 22 v0 rfl rfl)
  have k0 := h0
  have lt0 : ∀ x ∈ p0, x.block < W.heap.size := by obtain ⟨m, hm⟩ := k0; exact DataW.trod_lt m _ _ _ hm
  obtain ⟨z0, w0⟩ : ∃ f, PIn W a0 len0 cap0 f := pin_of h0
  clear hA0 hval0
  refine (walk a0 len0 cap0 z0 W (of_laid hL) w0).mono fun e W' ⟨he, bel⟩ => ?_
  subst he
  exact ⟨_, rfl, _, _, _, [], _, [], hW', trodAll_mk1 (shut_bool Tryd.underlying4 _), (trodAll_cons_mk (Below.trod laidOut (by kernel_rfl) (of_decide_eq_true (by kernel_rfl)) k0 bel lt0) trodAll_mk0), rfl, bel.frame _, fun h => by cases h⟩

theorem over : Rows.CellsNextSaid :=
  OpenClaim.holds_of_wide 5 Tryd.f5 rfl rfl rfl rfl rfl rfl rfl ⟨rfl, rfl, rfl, rfl, rfl⟩ rfl rfl rfl rfl rfl (by kernel_rfl) Tryd.func5 (by kernel_rfl)
    (of_decide_eq_true (by kernel_rfl)) (by unfold Func.isWrapper; first | (rw [if_pos (by decide +kernel)]; kernel_rfl) | (rw [if_neg (by decide +kernel)]; exact ⟨rfl, rfl⟩))
    (fun os started H enc _ => lifted os started H enc)

/-- The statement: the card. -/
theorem proved : Rows.CellsNextCardSaid :=
  Claim7.holds_tied_plain_at .later [] [.data] true Rows.cellsNextCard.stood.harness false
    over (fun _ h => by cases h) (by kernel_rfl) (fun _ h => by cases h) cellsNext_row_tie rfl ⟨rfl, rfl⟩ (by kernel_rfl) rfl
    (fun f fn hf hfn => by
      obtain rfl : f = 5 := Option.some.inj ((show Tryd.prog.funcNamed "ragpicker/ragpickerlaw05.CellsNext" = some 5 by kernel_rfl).symm.trans hf) |>.symm
      obtain rfl : fn = Tryd.f5 := (Option.some.inj (Tryd.func5.symm.trans hfn)).symm
      exact ⟨by kernel_rfl, fun j t ht => by
        rw [Tryd.params5] at ht
        have hm : t ∈ [22] := by simpa using Array.mem_of_getElem? ht
        have hall : ([22].all fun u => !Tryd.prog.wantsStandIn u) = true := by kernel_rfl
        exact (show Tryd.prog.wantsStandIn t = false by simpa using List.all_eq_true.1 hall t hm)⟩)
    (by kernel_rfl)
#print axioms proved
end Go.Proofs.YtlmaeppckaempaaDoor.CellsNext
