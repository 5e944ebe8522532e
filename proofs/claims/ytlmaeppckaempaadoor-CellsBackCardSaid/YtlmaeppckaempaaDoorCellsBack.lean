/-
  CellsBack: behind a page that is taken the cells of the others are as they were, and its own are there; dropped again all are as they were: for every slice of at most 64 pages, every number of a page and of a class; the table of sizes is tied to the program's text by the card.
-/
import Derived.Test.YtlmaeppckaempaaDoorClFrame
import Derived.Test.YtlmaeppckaempaaDoorClApp
import Derived.Test.YtlmaeppckaempaaDoorPgDrop
namespace Go.Proofs.YtlmaeppckaempaaDoor.CellsBack
open Go.Proofs.YtlmaeppckaempaaDoor
open Go.ChangeShapes Go.WideShapes Go.ChangeAt Go.RowKit

section
variable {f : Nat → Int × Int} {n k : Nat}
theorem small_wide (c : Int) : wide (put f k (1, c)) k = 1 := by
  unfold wide
  rw [put_eq]
  rfl
theorem small_drop {c : Int} (h : mayB f n = true) (ha : k < n) (hf : (f k).1 = 0) (i : Nat) : f i = drop (put f k (1, c)) k i := by
  unfold drop
  rw [small_wide]
  by_cases e : i = k
  · subst e
    rw [if_pos (by omega), (free_zero h ha hf).1]
  · rw [if_neg (by omega), put_ne e]
/-- What a page that is taken was, and what the class is. -/
theorem smallE_zero {a c : Int} (h : smallE f n a c = 0) : (0 ≤ c ∧ c ≤ 2) ∧ mayB f n = true ∧ 0 ≤ a ∧ a < n ∧ (f a.toNat).1 = 0 := by
  unfold smallE at h
  split at h
  · next hc =>
    refine ⟨(clB_iff c).1 hc, ?_⟩
    unfold takeE at h
    split at h
    · omega
    · next hm =>
      split at h
      · omega
      · next ha =>
        split at h
        · next hf =>
          refine ⟨by simpa using hm, by omega, by omega, ?_⟩
          have := (freeB_iff f a.toNat _).1 hf 0 (by decide)
          simpa using this
        · omega
  · omega
theorem onS_put {c : Int} {i : Nat} (h : mayB f n = true) (hg : mayB (put f k (1, c)) n = true) (hi : i ≠ k) : onS (put f k (1, c)) n i = onS f n i := by
  unfold onS
  rw [h, hg, Int.toNat_natCast, put_ne hi]
theorem num_class {c : Int} (hc : 0 ≤ c ∧ c ≤ 2) : 0 < numOf (1, c) := by
  have : c = 0 ∨ c = 1 ∨ c = 2 := by omega
  rcases this with rfl | rfl | rfl <;> decide
theorem len_put {c : Int} (hf : numOf (f k) = 0) : ∀ m, (cellsL (put f k (1, c)) m).length = (cellsL f m).length + (if k < m then numOf (1, c) else 0)
  | 0 => by simp [cellsL]
  | m + 1 => by
    rw [cellsL_len_succ, cellsL_len_succ, len_put hf m]
    by_cases e : m = k
    · subst e
      rw [put_eq, hf, if_neg (by omega), if_pos (by omega)]
    · rw [put_ne e]
      by_cases h : k < m
      · rw [if_pos h, if_pos (by omega)]; omega
      · rw [if_neg h, if_neg (by omega)]; omega
theorem allS_congr {g : Nat → Int × Int} (h : ∀ i, g i = f i) : allS g n = allS f n := by rw [show g = f from funext h]
theorem onS_short (f : Nat → Int × Int) (n : Nat) (a : Int) : (onS f n a).length ≤ 8 := by
  unfold onS
  split
  · next h => rw [List.length_map, pageL_length]; exact (num_room (may_pm h.1 (by omega))).1
  · simp
theorem allS_len (f : Nat → Int × Int) (n : Nat) : (allS f n).length = (allL f n).length := by simp [allS]
end
/-- Pages were taken, or dropped. -/
def TDone (w : World) (n : Nat) (g : Nat → Int × Int) (e : Ending) (w' : World) : Prop :=
  ∃ A c, e = .returned (.tuple #[.slice A n c, .int .i64 0]) ∧ PRow w' w'.heap.size A n g ∧ n ≤ c ∧ Below w.heap.size w w'
/-- An error was told. -/
def TErr (w : World) (E : Int) (e : Ending) (w' : World) : Prop :=
  ∃ A c, e = .returned (.tuple #[.slice A 0 c, .int .i64 E]) ∧ Below w.heap.size w w'
theorem out_done {w w' : World} {E : Int} {n : Nat} {g : Nat → Int × Int} {e : Ending} (h : TOut w E n g e w') (h0 : E = 0) : TDone w n g e w' := by
  subst h0
  obtain ⟨A, c, h1, h2, h3, h4⟩ := h
  have e0 : outN 0 n = n := if_pos rfl
  rw [e0] at h1 h2 h3
  exact ⟨A, c, h1, h2, h3, h4⟩
theorem out_fails {w w' : World} {E : Int} {n : Nat} {g : Nat → Int × Int} {e : Ending} (h : TOut w E n g e w') (h0 : E ≠ 0) : TErr w E e w' := by
  obtain ⟨A, c, h1, h2, h3, h4⟩ := h
  have e0 : outN E n = 0 := if_neg h0
  rw [e0] at h1
  exact ⟨A, c, h1, h4⟩

theorem early (A : Option Addr) (len cap : Nat) (f : Nat → Int × Int) (a c : Int) (w : World) (hz : Sz w) (hp : PIn w A len cap f) (h : 64 < len ∨ smallE f len a c ≠ 0) :
    Calls Tryd.prog 8 #[.slice A len cap, .int .i64 a, .int .i64 c] w fun e w' => e = .returned (.bool true) ∧ Below w.heap.size w w' := by
  have HN := Lib.hid (Now.begin hz hp)
  have HZ := Lib.hid hz
  have hcl := hp.2.1
  have hcm := hp.2.2
  clear hz hp
  by_cases hlen : 64 < len
  · clear h
    go_enter Tryd.func8, Tryd.ntmps8
    go_wp2_with fail
    refine (awake_yes _ HZ.out).mono ?_
    rintro e w1 ⟨rfl, hb1⟩
    have HB := Lib.hid hb1
    clear hb1
    go_wp2
    go_ret
    exact ⟨rfl, HB.out⟩
  have hn : len ≤ 1000 := by omega
  have HE := Lib.hid (h.resolve_left hlen)
  obtain ⟨E, HEE⟩ : ∃ E, Hid (smallE f len a c = E) := ⟨_, Lib.hid rfl⟩
  have hE : (E != 0) = true := by
    have := HE.out
    rw [HEE.out] at this
    simpa using this
  clear h
  go_enter Tryd.func8, Tryd.ntmps8
  go_wp2_with fail
  refine (awake_yes _ HZ.out).mono ?_
  rintro e w1 ⟨rfl, hb1⟩
  have HN1 := Lib.hid (HN.out.next hb1)
  clear hb1
  go_wp2_with fail
  refine ((small_any w.heap.size _ _ _ f a c w1 hn hcl HN1.out.row HN1.out.bel.size).mono fun _ _ h => out_fails h HE.out).mono ?_
  rintro e w2 ⟨A2, c2, rfl, hb2⟩
  have HN2 := Lib.hid (HN1.out.next hb2)
  clear hb2
  rw [HEE.out]
  go_wp2
  go_ret
  exact ⟨rfl, HN2.out.bel⟩

set_option maxRecDepth 100000 in
set_option maxHeartbeats 2000000 in
theorem walk (A : Option Addr) (len cap : Nat) (f : Nat → Int × Int) (a c : Int) (w : World) (hz : Sz w) (hp : PIn w A len cap f) (_ : (Lit.int .i64 a).wf = true) (_ : (Lit.int .i64 c).wf = true) :
    Calls Tryd.prog 8 #[.slice A len cap, .int .i64 a, .int .i64 c] w fun e w' => e = .returned (.bool true) ∧ Below w.heap.size w w' := by
  by_cases hearly : 64 < len ∨ smallE f len a c ≠ 0
  · exact early A len cap f a c w hz hp hearly
  have hn : len ≤ 64 := by omega
  have hn' : len ≤ 1000 := by omega
  have hE : smallE f len a c = 0 := by
    by_cases h : smallE f len a c = 0
    · exact h
    · exact absurd (.inr h) hearly
  obtain ⟨hc, hM, ha0, ha1, hfree⟩ := smallE_zero hE
  obtain ⟨k, rfl⟩ : ∃ k : Nat, a = k := ⟨a.toNat, by omega⟩
  rw [Int.toNat_natCast] at hfree
  have hk : k < len := by omega
  have HN := Lib.hid (Now.begin hz hp)
  have HZ := Lib.hid hz
  have hcl := hp.2.1
  have hcm := hp.2.2
  obtain ⟨g, HG⟩ : ∃ g, Hid (g = put f k (1, c)) := ⟨_, Lib.hid rfl⟩
  have HE := Lib.hid hE
  have HM := Lib.hid hM
  have hMg : mayB g len = true := by rw [HG.out]; exact small_may hM hk hfree hc.1 hc.2
  have HMg := Lib.hid hMg
  have HD : Hid (dropE g len k = 0) := Lib.hid (dropE_ok hMg hk (.inl (by rw [HG.out, put_eq])))
  have HDF : Hid (∀ i, f i = dropF g k i) := Lib.hid fun i => by
    show f i = drop g (k : Int).toNat i
    rw [HG.out, Int.toNat_natCast]
    exact small_drop hM hk hfree i
  have HO : Hid (∀ i : Nat, i ≠ k → onS g len i = onS f len i) := Lib.hid fun i hi => by
    rw [HG.out]
    exact onS_put hM (by rw [← HG.out]; exact hMg) hi
  have hf0 : numOf (f k) = 0 := by rw [(free_zero hM hk hfree).1]; rfl
  obtain ⟨num, HNum⟩ : ∃ num, Hid (num = numOf (1, c)) := ⟨_, Lib.hid rfl⟩
  have hnum : 0 < num := by rw [HNum.out]; exact num_class hc
  obtain ⟨m, HL⟩ : ∃ m, Hid ((allS f len).length = m) := ⟨_, Lib.hid rfl⟩
  have hm : m ≤ 512 := by rw [← HL.out, allS_len]; exact allL_length f len
  have HLg : Hid ((allS g len).length = m + num) := Lib.hid (by
    rw [allS_len, allL_may hMg, HG.out, len_put hf0, if_pos hk, ← HL.out, allS_len, allL_may hM, HNum.out])
  have HOwn : Hid ((onS g len k).length = num) := Lib.hid (by
    unfold onS
    rw [if_pos ⟨hMg, by omega, by omega⟩, Int.toNat_natCast, List.length_map, pageL_length, HG.out, put_eq, HNum.out])
  have hnum8 : num ≤ 8 := by rw [← HOwn.out]; exact onS_short _ _ _
  clear hz hp hM hearly hE hc ha0 ha1 hfree hMg hf0
  go_enter Tryd.func8, Tryd.ntmps8
  go_wp2_with fail
  refine (awake_yes _ HZ.out).mono ?_
  rintro e w1 ⟨rfl, hb1⟩
  have HN1 := Lib.hid (HN.out.next hb1)
  clear hb1
  go_wp2_with fail
  refine ((small_any w.heap.size _ _ _ f k c w1 hn' hcl HN1.out.row HN1.out.bel.size).mono fun _ _ h => out_done h HE.out).mono ?_
  rintro e w2 ⟨A2, c2, rfl, hr2, hc2, hb2⟩
  have HN2 := Lib.hid (HN1.out.next hb2)
  have HA2 : Hid (Now w2 w2 A2 len g) := Lib.hid ⟨HN2.out.sz, by rw [HG.out]; simpa [smallF] using hr2, Below.refl _ _⟩
  clear hb2 hr2
  go_wp2_with fail
  refine ((drop_any w2.heap.size _ _ _ g k w2 hn' HA2.out.row (Nat.le_refl _)).mono fun _ _ h => out_done h HD.out).mono ?_
  rintro e w3 ⟨A3, c3, rfl, hr3, hc3, hb3⟩
  have HN3 := Lib.hid (HN2.out.next hb3)
  have HA3 := Lib.hid (HA2.out.next hb3)
  have HB3 : Hid (Now w3 w3 A3 len f) := Lib.hid ⟨HN3.out.sz, hr3.congr fun i _ => HDF.out i, Below.refl _ _⟩
  clear hb3 hr3
  go_wp2
  go_loopw [12] (fun p wi => ∃ (i : Nat), i ≤ len ∧ p = .int .i64 i ∧ Hid (Below w3.heap.size w3 wi)) (fun p _ => len - (intOf p).toNat)
  case atStart => exact ⟨0, Nat.zero_le _, rfl, Lib.hid (Below.refl _ _)⟩
  case round =>
    obtain ⟨i, hi, rfl, HBi⟩ := hrel
    have HNi := Lib.hid (HN3.out.next HBi.out)
    have HAi := Lib.hid (HA3.out.next HBi.out)
    have HBBi := Lib.hid (HB3.out.next HBi.out)
    have hzi := HBi.out.size
    by_cases hlt : i < len
    · go_wp2_with fail
      refine (HAi.out.on c2 i hn').mono ?_
      rintro e w4 ⟨a4, c4, rfl, hr4, hc4, hcm4, hb4⟩
      have HN4 := Lib.hid (HNi.out.next hb4)
      have HB4 := Lib.hid (HBi.out.trans (hb4.mono hzi))
      have HR4 := Lib.hid hr4
      have hz4 := HB4.out.size
      clear hr4 hb4
      go_wp2_with fail
      refine (HN4.out.on cap i hn').mono ?_
      rintro e w5 ⟨a5, c5, rfl, hr5, hc5, hcm5, hb5⟩
      have HN5 := Lib.hid (HN4.out.next hb5)
      have HB5 := Lib.hid (HB4.out.trans (hb5.mono hz4))
      have HR45 := Lib.hid (HR4.out.over hb5 (Nat.le_refl _))
      have HR5 := Lib.hid hr5
      have hz5 := HB5.out.size
      clear hr5 hb5
      have s4 := onS_short g len i
      have s5 := onS_short f len i
      by_cases e : i = k
      · subst e
        have ei : ((i : Int) != i) = false := by simp
        obtain ⟨b, HBool⟩ : ∃ b, Hid (decide (onS g len i = onS f len i) = b) := ⟨_, Lib.hid rfl⟩
        go_wp2_with fail
        refine (ints_any _ _ _ _ _ _ _ _ _ _ _ (by omega) (by omega) HR45.out HR5.out).mono ?_
        rintro e w6 ⟨rfl, hb6⟩
        have HB6 := Lib.hid (HB5.out.trans (hb6.mono hz5))
        clear hb6
        rw [HBool.out]
        go_wp2
        go_roundw
        case rel => exact ⟨i + 1, by omega, by go_num, HB6⟩
        case measure => simp [intOf]; omega
      · have ei : ((i : Int) != k) = true := by simp; omega
        have HEq := Lib.hid (HO.out i e)
        have HR45' : Hid (Row w5 w4.heap.size a4 (onS g len i).length (onS f len i)) := Lib.hid (by have := HR45.out; rwa [HEq.out] at this ⊢)
        clear e
        go_wp2_with fail
        rw [HEq.out]
        refine (ints_same _ _ _ _ _ _ _ (onS f len i) _ (by omega) (by have := HR45'.out; rwa [HEq.out] at this) HR5.out).mono ?_
        rintro e w6 ⟨rfl, hb6⟩
        have HB6 := Lib.hid (HB5.out.trans (hb6.mono hz5))
        clear hb6
        go_wp2
        go_roundw
        case rel => exact ⟨i + 1, by omega, by go_num, HB6⟩
        case measure => simp [intOf]; omega
    · obtain rfl : i = len := by omega
      clear HBi
      go_wp2_with fail
      refine (HBBi.out.all c3 hn').mono ?_
      rintro e w4 ⟨a4, c4, rfl, hr4, hc4, hcm4, hb4⟩
      rw [HL.out] at hr4 hc4
      rw [HL.out]
      have HN4 := Lib.hid (HNi.out.next hb4)
      have HA4 := Lib.hid (HAi.out.next hb4)
      have HR4 := Lib.hid hr4
      clear hr4 hb4
      go_wp2_with fail
      refine (HN4.out.all cap hn').mono ?_
      rintro e w5 ⟨a5, c5, rfl, hr5, hc5, hcm5, hb5⟩
      rw [HL.out] at hr5 hc5
      rw [HL.out]
      have HN5 := Lib.hid (HN4.out.next hb5)
      have HA5 := Lib.hid (HA4.out.next hb5)
      have HR45 := Lib.hid (HR4.out.over hb5 (Nat.le_refl _))
      have HR5 := Lib.hid hr5
      clear hr5 hb5
      go_wp2_with fail
      refine (ints_same _ _ _ _ _ _ _ (allS f i) _ (by omega) HR45.out HR5.out).mono ?_
      rintro e w6 ⟨rfl, hb6⟩
      have HN6 := Lib.hid (HN5.out.next hb6)
      have HA6 := Lib.hid (HA5.out.next hb6)
      clear hb6
      go_wp2_with fail
      refine (HA6.out.on c2 k hn').mono ?_
      rintro e w7 ⟨a7, c7, rfl, hr7, hc7, hcm7, hb7⟩
      rw [HOwn.out] at hc7
      rw [HOwn.out]
      have HN7 := Lib.hid (HN6.out.next hb7)
      have HA7 := Lib.hid (HA6.out.next hb7)
      have dnum : decide ((0 : Int) < num) = true := by simp; omega
      clear hr7 hb7
      go_wp2_with fail
      refine (HA7.out.all c2 hn').mono ?_
      rintro e w8 ⟨a8, c8, rfl, hr8, hc8, hcm8, hb8⟩
      rw [HLg.out] at hc8
      rw [HLg.out]
      have HN8 := Lib.hid (HN7.out.next hb8)
      clear hr8 hb8
      go_wp2_with fail
      refine (HN8.out.all cap hn').mono ?_
      rintro e w9 ⟨a9, c9, rfl, hr9, hc9, hcm9, hb9⟩
      rw [HL.out] at hc9
      rw [HL.out]
      have HN9 := Lib.hid (HN8.out.next hb9)
      clear hr9 hb9
      go_wp2
      go_ret
      exact ⟨rfl, HN9.out.bel⟩

set_option maxRecDepth 100000 in
theorem lifted (os : Os) (started : os.Started) (H : Type) (enc : TypeId × Value → H) :
    ReturnsInHanded {} Tryd.checked os 8 .any (fun w args => (Rows.cellsBackSpec.pre enc Tryd.prog Tryd.f8 [] false w args ∧ laidMetH Tryd.prog laidSizes w) ∧ sizedMet enc Tryd.prog Tryd.f8 (OpenSpec.ofChange Rows.cellsBackSpec) false w args)
      (Rows.cellsBackSpec.post enc Tryd.prog Tryd.f8 false true false false) := by
  refine returnsInHanded_of_change_and (C := Tryd.checked) (X := fun w _ => laidMetH Tryd.prog laidSizes w) (fun _ _ _ hh h => h.of_heap hh) own started (by kernel_rfl) Tryd.func8
    (ChangeSpec.witness_shaped (enc := enc) (C := Tryd.checked) (os := os) (X := fun w _ => laidMetH Tryd.prog laidSizes w) false (World.doorLaid Tryd.prog 400 os) #[.slice none 0 0, .int .i64 0, .int .i64 0] 8 rfl (World.shaped_of_RefB (by kernel_rfl) (by kernel_rfl)) (by kernel_rfl) (by kernel_rfl) (by kernel_rfl) (door_met os _)) ?_
  intro W base args ds gs before hval0 hW _ _ hL _
  have hval : ∀ (j : Nat) t v, Tryd.f8.params[j]? = some t → args[j]? = some v → Value.okWide Tryd.prog W .any base t v := hval0
  have hW' := hW
  obtain ⟨p, q, hA0, hV, rfl, hfz, hnd⟩ := hW
  have hA : DataW.TrodAll enc Tryd.prog W 0 (fun _ => true) true Tryd.f8.params.toList args.toList ds p := hA0
  rw [Tryd.params8] at hA hval
  obtain ⟨v0, vs0, d0, ds0, p0, q0, hargs, rfl, rfl, h0, r0⟩ := trodAll_cons hA
  obtain ⟨v1, vs1, d1, ds1, p1, q1, rfl, rfl, rfl, h1, r1⟩ := trodAll_cons r0
  obtain ⟨v2, vs2, d2, ds2, p2, q2, rfl, rfl, rfl, h2, r2⟩ := trodAll_cons r1
  obtain ⟨rfl, rfl, rfl⟩ := trodAll_nil r2
  obtain rfl : args = #[v0, v1, v2] := by cases args; simp_all
  obtain ⟨rfl, rfl⟩ := trodVars_none hV
  obtain ⟨a0, len0, cap0, rfl⟩ := okWide_slice Tryd.underlying22 (hval 0 22 v0 rfl rfl)
  have k0 := h0
  have lt0 : ∀ x ∈ p0, x.block < W.heap.size := by obtain ⟨m, hm⟩ := k0; exact DataW.trod_lt m _ _ _ hm
  obtain ⟨z0, w0⟩ : ∃ f, PIn W a0 len0 cap0 f := pin_of h0
  obtain ⟨a1, rfl, rfl, rfl, w1⟩ := open_int Tryd.underlying3 (hval 1 3 v1 rfl rfl) h1
  obtain ⟨a2, rfl, rfl, rfl, w2⟩ := open_int Tryd.underlying3 (hval 2 3 v2 rfl rfl) h2
  clear hA0 hval0
  refine (walk a0 len0 cap0 z0 a1 a2 W (of_laid hL) w0 w1 w2).mono fun e W' ⟨he, bel⟩ => ?_
  subst he
  exact ⟨_, rfl, _, _, _, [], _, [], hW', trodAll_mk1 (shut_bool Tryd.underlying4 _), (trodAll_cons_mk (Below.trod laidOut (by kernel_rfl) (of_decide_eq_true (by kernel_rfl)) k0 bel lt0) (trodAll_cons_mk (shut_int Tryd.underlying3 w1) (trodAll_cons_mk (shut_int Tryd.underlying3 w2) trodAll_mk0))), rfl, bel.frame _, fun h => by cases h⟩

theorem over : Rows.CellsBackSaid :=
  OpenClaim.holds_of_wide 8 Tryd.f8 rfl rfl rfl rfl rfl rfl rfl ⟨rfl, rfl, rfl, rfl, rfl⟩ rfl rfl rfl rfl rfl (by kernel_rfl) Tryd.func8 (by kernel_rfl)
    (of_decide_eq_true (by kernel_rfl)) (by unfold Func.isWrapper; first | (rw [if_pos (by decide +kernel)]; kernel_rfl) | (rw [if_neg (by decide +kernel)]; exact ⟨rfl, rfl⟩))
    (fun os started H enc _ => lifted os started H enc)

/-- The statement: the card. -/
theorem proved : Rows.CellsBackCardSaid :=
  Claim7.holds_tied_plain_at .later [] [.data] true Rows.cellsBackCard.stood.harness false
    over (fun _ h => by cases h) (by kernel_rfl) (fun _ h => by cases h) cellsBack_row_tie rfl ⟨rfl, rfl⟩ (by kernel_rfl) rfl
    (fun f fn hf hfn => by
      obtain rfl : f = 8 := Option.some.inj ((show Tryd.prog.funcNamed "ragpicker/ragpickerlaw05.CellsBack" = some 8 by kernel_rfl).symm.trans hf) |>.symm
      obtain rfl : fn = Tryd.f8 := (Option.some.inj (Tryd.func8.symm.trans hfn)).symm
      exact ⟨by kernel_rfl, fun j t ht => by
        rw [Tryd.params8] at ht
        have hm : t ∈ [22, 3, 3] := by simpa using Array.mem_of_getElem? ht
        have hall : ([22, 3, 3].all fun u => !Tryd.prog.wantsStandIn u) = true := by kernel_rfl
        exact (show Tryd.prog.wantsStandIn t = false by simpa using List.all_eq_true.1 hall t hm)⟩)
    (by kernel_rfl)
#print axioms proved
end Go.Proofs.YtlmaeppckaempaaDoor.CellsBack
