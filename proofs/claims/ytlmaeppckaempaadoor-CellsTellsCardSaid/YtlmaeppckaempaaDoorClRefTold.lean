/-
  The reference's On, Start and Next of cells.
-/
import Derived.Test.YtlmaeppckaempaaDoorClRefAll
import Derived.IntWalk
namespace Go.Proofs.YtlmaeppckaempaaDoor
open Go.RowKit

theorem told_none {L : List (Int × Int)} {p : Int × Int → Bool} {i : Nat} (h : ∀ j c, j < i → L[j]? = some c → p c = false) : (L.take i).find? p = none := by
  rw [List.find?_eq_none]
  intro c hc
  obtain ⟨j, hj⟩ := List.getElem?_of_mem hc
  rw [List.getElem?_take] at hj
  split at hj
  · next hlt => rw [h j c hlt hj]; simp
  · cases hj
theorem told_next {L : List (Int × Int)} {p : Int × Int → Bool} {i : Nat} {c : Int × Int} (h : ∀ j c, j < i → L[j]? = some c → p c = false) (hc : L[i]? = some c) (hp : p c = false) : ∀ j c, j < i + 1 → L[j]? = some c → p c = false := by
  intro j d hj hd
  by_cases e : j = i
  · subst e
    rw [hc] at hd
    cases hd
    exact hp
  · exact h j d (by omega) hd
theorem told_one {L : List (Int × Int)} {p : Int × Int → Bool} {i : Nat} {c : Int × Int} (h : ∀ j c, j < i → L[j]? = some c → p c = false) (hc : L[i]? = some c) (hp : p c = true) : foundV L p = c ∧ foundS L p = true := by
  have := find_now (told_none h) hp (take_pre hc)
  simp [foundV, foundS, this]
theorem told_end {L : List (Int × Int)} {p : Int × Int → Bool} (h : ∀ j c, j < L.length → L[j]? = some c → p c = false) : foundV L p = (0, 0) ∧ foundS L p = false := by
  have := told_none (i := L.length) h
  rw [List.take_of_length_le (Nat.le_refl _)] at this
  simp [foundV, foundS, this]
theorem allS_at {f : Nat → Int × Int} {n j : Nat} {c : Int × Int} (h : (allL f n)[j]? = some c) : (allS f n).getD j 0 = c.1 := by
  simp [allS, List.getD, h]

theorem rtuple {a a' : Int} {b b' : Bool} (h : a' = a) (h' : b' = b) : Ending.returned (.tuple #[.int .i64 a, .bool b]) = .returned (.tuple #[.int .i64 a', .bool b']) := by rw [h, h']
theorem keep_step {wr w1 w2 : World} {p : Addr} {v : Value} (hp : p.block < wr.heap.size) (hb : Below w1.heap.size w1 w2) (h : Below wr.heap.size wr w1 ∧ w1.cell? p = some v) : Below wr.heap.size wr w2 ∧ w2.cell? p = some v :=
  ⟨h.1.trans (hb.mono h.1.size), (hb.cell (p := p) (Nat.lt_of_lt_of_le hp h.1.size)).trans h.2⟩
theorem keep_drew {wr w1 : World} {p : Addr} {v : Value} (h : Below wr.heap.size wr w1 ∧ w1.cell? p = some v) : Below wr.heap.size wr w1.drew ∧ w1.drew.cell? p = some v := ⟨h.1.drew, h.2⟩

section
variable (B : Nat) (A : Option Addr) (n c : Nat) (f : Nat → Int × Int) (a : Int) (w : World)

set_option maxHeartbeats 1000000 in
theorem rnext_any (hn : n ≤ 1000) (hr : PRow w B A n f) (hB : B ≤ w.heap.size) :
    Calls Tryd.prog 19 #[.slice A n c, .int .i64 a] w fun e w' => e = .returned (.tuple #[.int .i64 (foundV (allL f n) (pUp a)).1, .bool (foundS (allL f n) (pUp a))]) ∧ Below w.heap.size w w' := by
  have HR := Lib.hid hr
  clear hr
  obtain ⟨m, HL⟩ : ∃ m, Hid (m = (allL f n).length) := ⟨_, Lib.hid rfl⟩
  have hm : m ≤ 512 := by rw [HL.out]; exact allL_length f n
  have HLS : Hid ((allS f n).length = m) := Lib.hid (by rw [HL.out]; simp [allS])
  go_enter Tryd.func19, Tryd.ntmps19
  go_wp2_with fail
  refine (rall_any B A n _ f _ hn HR.out hB).mono ?_
  rintro e w1 ⟨a1, c1, rfl, hr1, hc1, hcm1, hb1⟩
  rw [HLS.out] at hr1 hc1
  rw [HLS.out]
  have HR1 := Lib.hid hr1
  have HB1 := Lib.hid hb1
  clear hr1 hb1
  go_wp2
  go_loop [7] (fun p => ∃ (i : Nat), i ≤ m ∧ p = .int .i64 i ∧ Hid (∀ j c, j < i → (allL f n)[j]? = some c → pUp a c = false)) (fun p => m - (intOf p).toNat)
  case atStart => exact ⟨0, Nat.zero_le _, rfl, Lib.hid fun j c h _ => absurd h (by omega)⟩
  case round =>
    obtain ⟨i, hi, rfl, HU⟩ := hrel
    by_cases hlt : i < m
    · obtain ⟨b, off, rfl, hb, hc⟩ := HR1.out.2 (by omega)
      have c0 := hc i hlt
      obtain ⟨⟨q, r⟩, hg⟩ : ∃ c, (allL f n)[i]? = some c := ⟨_, List.getElem?_eq_getElem (by rw [← HL.out]; exact hlt)⟩
      rw [allS_at hg] at c0
      simp only at c0
      clear hc
      by_cases hq : a < q
      · have dq : decide (a < q) = true := by simpa using hq
        obtain ⟨t1, t2⟩ := told_one HU.out hg (by simp only [pUp]; exact dq)
        have T1 := Lib.hid (show (foundV (allL f n) (pUp a)).1 = q by rw [t1])
        have T2 := Lib.hid t2
        clear t1 t2 hg hq
        go_wp2
        go_ret2
        exact ⟨rtuple T1.out T2.out, HB1.out⟩
      · have dq : decide (a < q) = false := by simpa using hq
        have HU2 := Lib.hid (told_next HU.out hg (by simp only [pUp]; exact dq))
        clear hg hq
        go_wp2
        go_round
        case rel => exact ⟨i + 1, by omega, by go_num, HU2⟩
        case measure => simp [intOf]; omega
    · obtain rfl : i = m := by omega
      obtain ⟨t1, t2⟩ := told_end (L := allL f n) (p := pUp a) (by rw [← HL.out]; exact HU.out)
      have T1 := Lib.hid (show (foundV (allL f n) (pUp a)).1 = 0 by rw [t1])
      have T2 := Lib.hid t2
      clear t1 t2
      go_wp2
      go_ret2
      exact ⟨rtuple T1.out T2.out, HB1.out⟩

theorem filt_step {S : List Int} {i : Nat} {s : Int} (p : Int → Bool) (h : S[i]? = some s) : (S.take (i + 1)).filter p = (S.take i).filter p ++ (if p s then [s] else []) := by
  rw [take_next h, List.filter_append]
  cases hp : p s <;> simp [hp]
set_option maxHeartbeats 1000000 in
theorem ron_any (hn : n ≤ 1000) (hr : PRow w B A n f) (hB : B ≤ w.heap.size) :
    Calls Tryd.prog 13 #[.slice A n c, .int .i64 a] w (Listed w (onS f n a)) := by
  have HR := Lib.hid hr
  clear hr
  obtain ⟨m, HL⟩ : ∃ m, Hid (m = (allL f n).length) := ⟨_, Lib.hid rfl⟩
  have hm : m ≤ 512 := by rw [HL.out]; exact allL_length f n
  have HLS : Hid ((allS f n).length = m) := Lib.hid (by rw [HL.out]; simp [allS])
  go_enter Tryd.func13, Tryd.ntmps13
  go_wp2_with fail
  refine (rall_any B A n _ f _ hn HR.out hB).mono ?_
  rintro e w1 ⟨a1, c1, rfl, hr1, hc1, hcm1, hb1⟩
  rw [HLS.out] at hr1 hc1
  rw [HLS.out]
  have HR1 := Lib.hid hr1
  have HB1 := Lib.hid hb1
  have hz1 := hb1.size
  clear hr1 hb1
  go_wp2
  go_loopw [6, 7] (fun o p wr => ∃ (i : Nat), i ≤ m ∧ p = .int .i64 i ∧ Hid (Lst w1.heap.size wr o (((allS f n).take i).filter (fun s => s / 16 - 1 == a))) ∧ Hid (Below w1.heap.size w1 wr)) (fun _ p _ => m - (intOf p).toNat)
  case atStart => exact ⟨0, Nat.zero_le _, rfl, Lib.hid (Lst.nil _ _), Lib.hid (Below.refl _ _)⟩
  case round =>
    obtain ⟨i, hi, rfl, HO, HBr⟩ := hrel
    have hzr := HBr.out.size
    by_cases hlt : i < m
    · obtain ⟨b, off, rfl, hb, hc⟩ := (HR1.out.below HBr.out).2 (by omega)
      have c0 := hc i hlt
      obtain ⟨⟨q, r⟩, hg⟩ : ∃ c, (allL f n)[i]? = some c := ⟨_, List.getElem?_eq_getElem (by rw [← HL.out]; exact hlt)⟩
      rw [allS_at hg] at c0
      simp only at c0
      have hgs : (allS f n)[i]? = some q := by simp [allS, hg]
      have HF := Lib.hid (filt_step (fun s => s / 16 - 1 == a) hgs)
      have hbd := allL_bounds f n _ (List.mem_of_getElem? hg)
      have h16 := ((allL_apart f n).2 _ (List.mem_of_getElem? hg)).1
      simp only at hbd h16
      have hsh : (((allS f n).take i).filter (fun s => s / 16 - 1 == a)).length ≤ 512 := Nat.le_trans (List.length_filter_le _ _) (allS_short f n i)
      have hbw : b < wr.heap.size := by omega
      clear hc hg hgs
      by_cases hq : q / 16 - 1 = a
      · have dq : (q / 16 - 1 == a) = true := by simpa using hq
        have HF2 : Hid (((allS f n).take (i + 1)).filter (fun s => s / 16 - 1 == a) = ((allS f n).take i).filter (fun s => s / 16 - 1 == a) ++ [q]) := Lib.hid (by have := HF.out; rw [this, if_pos dq])
        clear hq HF
        go_wp2_with (at_builtin; refine list_cat rfl _ _ rfl rfl rfl rfl (HO.out.over ((Below.refl _ _).alloc (Nat.le_refl _) _)) (row_lit1 _ q) (by simp; omega) (by simp only [List.length_singleton]; omega) ?_; intro v' w2 hl2 hb2; have HO2 := Lib.hid hl2; have HB2 := Lib.hid ((HBr.out.alloc hzr _).trans hb2); clear hl2 hb2)
        exact ⟨⟨i + 1, by omega, by go_num, Lib.hid (by rw [HF2.out]; exact HO2.out), HB2⟩, by simp [intOf]; omega⟩
      · have dq : (q / 16 - 1 == a) = false := by simpa using hq
        have HF2 : Hid (((allS f n).take (i + 1)).filter (fun s => s / 16 - 1 == a) = ((allS f n).take i).filter (fun s => s / 16 - 1 == a)) := Lib.hid (by have := HF.out; rw [this, if_neg (by rw [dq]; decide), List.append_nil])
        clear hq HF
        go_wp2
        go_roundw
        case rel => exact ⟨i + 1, by omega, by go_num, Lib.hid (by rw [HF2.out]; exact HO.out), HBr⟩
        case measure => simp [intOf]; omega
    · obtain rfl : i = m := by omega
      have hO := HO.out
      rw [List.take_of_length_le (by rw [HLS.out]; exact Nat.le_refl _), filter_allS] at hO
      obtain ⟨a2, c2, rfl, hr2, hc2, hcm2⟩ := hO.row
      have HLd : Hid (Listed w (onS f n a) (.returned (.slice a2 (onS f n a).length c2)) wr) := Lib.hid ⟨a2, c2, rfl, hr2, hc2, hcm2, HB1.out.trans (HBr.out.mono hz1)⟩
      obtain ⟨k, hk⟩ : ∃ k, k = (onS f n a).length := ⟨_, rfl⟩
      rw [← hk] at HLd ⊢
      clear hr2 hc2 hcm2 hO HO hk
      go_wp2
      go_ret
      exact HLd.out

set_option maxHeartbeats 2000000 in
theorem rstart_any (hn : n ≤ 1000) (hr : PRow w B A n f) (hB : B ≤ w.heap.size) :
    Calls Tryd.prog 17 #[.slice A n c, .int .i64 a] w fun e w' => e = .returned (.tuple #[.int .i64 (foundV (allL f n) (pIn a)).1, .bool (foundS (allL f n) (pIn a))]) ∧ Below w.heap.size w w' := by
  have HR := Lib.hid hr
  clear hr
  obtain ⟨m, HL⟩ : ∃ m, Hid (m = (allL f n).length) := ⟨_, Lib.hid rfl⟩
  have hm : m ≤ 512 := by rw [HL.out]; exact allL_length f n
  have HLS : Hid ((allS f n).length = m) := Lib.hid (by rw [HL.out]; simp [allS])
  go_enter Tryd.func17, Tryd.ntmps17
  go_wp2_with fail
  refine (rall_any B A n _ f _ hn HR.out hB).mono ?_
  rintro e w1 ⟨a1, c1, rfl, hr1, hc1, hcm1, hb1⟩
  rw [HLS.out] at hr1 hc1
  rw [HLS.out]
  have HR1 := Lib.hid hr1
  have HB1 := Lib.hid hb1
  have hz1 := hb1.size
  clear hr1 hb1
  go_wp2
  go_loopw [7] (fun p wr => ∃ (i : Nat), i ≤ m ∧ p = .int .i64 i ∧ Hid (∀ j c, j < i → (allL f n)[j]? = some c → pIn a c = false) ∧ Hid (Below w1.heap.size w1 wr)) (fun p _ => m - (intOf p).toNat)
  case atStart => exact ⟨0, Nat.zero_le _, rfl, Lib.hid fun j c h _ => absurd h (by omega), Lib.hid (Below.refl _ _)⟩
  case round =>
    obtain ⟨i, hi, rfl, HU, HBr⟩ := hrel
    have hzr := HBr.out.size
    by_cases hlt : i < m
    · obtain ⟨b, off, rfl, hb, hc⟩ := (HR1.out.below HBr.out).2 (by omega)
      have c0 := hc i hlt
      obtain ⟨⟨q, r⟩, hg⟩ : ∃ c, (allL f n)[i]? = some c := ⟨_, List.getElem?_eq_getElem (by rw [← HL.out]; exact hlt)⟩
      rw [allS_at hg] at c0
      simp only at c0
      have hbd := allL_bounds f n _ (List.mem_of_getElem? hg)
      simp only at hbd
      have hbw : b < wr.heap.size := by omega
      clear hc
      by_cases hq : q ≤ a
      · have dq : decide (q ≤ a) = true := by simpa using hq
        have HBg := Lib.hid (show bg f n q = r from bg_cell (List.mem_of_getElem? hg))
        have HC : Hid (∀ W, Below wr.heap.size wr W → Calls Tryd.prog 21 #[.slice A n c, .int .i64 q] W fun e w' => e = .returned (.int .i64 r) ∧ Below W.heap.size W w') := Lib.hid fun W hW => by
          rw [← HBg.out]
          exact rbegins_any B A n c f q W hn (HR.out.over (HB1.out.trans ((HBr.out.trans (hW.mono hzr)).mono hz1)) hB) (by have := hW.size; omega)
        have hsum : IntKind.i64.wrap (q + r) = q + r := IntWalk.i64_in _ (by omega)
        by_cases hq2 : a < q + r
        · have dq2 : decide (a < q + r) = true := by simpa using hq2
          obtain ⟨t1, t2⟩ := told_one HU.out hg (by simp only [pIn]; rw [dq, dq2]; rfl)
          have T1 := Lib.hid (show (foundV (allL f n) (pIn a)).1 = q by rw [t1])
          have T2 := Lib.hid t2
          clear t1 t2 hg hq hq2
          go_wp2
          go_region_held3 (fun w' => Below wr.heap.size wr w' ∧ w'.cell? ⟨b, off + i, none⟩ = some (.int .i64 q)) (first | exact keep_drew ⟨Below.refl _ _, c0⟩ | exact keep_step hbw ‹_› ‹_›) (first
            | (go_at_call 21; refine (HC.out _ (‹Below wr.heap.size wr _ ∧ _›).1).mono ?_; rintro e w2 ⟨rfl, hb2⟩))
          clear hsum
          go_wp2
          go_ret2
          exact ⟨rtuple T1.out T2.out, HB1.out.trans ((HBr.out.trans ((‹Below wr.heap.size wr w2 ∧ _›).1.mono hzr)).mono hz1)⟩
        · have dq2 : decide (a < q + r) = false := by simpa using hq2
          have HU2 := Lib.hid (told_next HU.out hg (by simp only [pIn]; rw [dq, dq2]; rfl))
          clear hg hq hq2
          go_wp2
          go_region_held3 (fun w' => Below wr.heap.size wr w' ∧ w'.cell? ⟨b, off + i, none⟩ = some (.int .i64 q)) (first | exact keep_drew ⟨Below.refl _ _, c0⟩ | exact keep_step hbw ‹_› ‹_›) (first
            | (go_at_call 21; refine (HC.out _ (‹Below wr.heap.size wr _ ∧ _›).1).mono ?_; rintro e w2 ⟨rfl, hb2⟩))
          clear hsum
          go_wp2
          exact ⟨⟨i + 1, by omega, by go_num, HU2, Lib.hid (HBr.out.trans ((‹Below wr.heap.size wr w2 ∧ _›).1.mono hzr))⟩, by simp [intOf]; omega⟩
      · have dq : decide (q ≤ a) = false := by simpa using hq
        have HU2 := Lib.hid (told_next HU.out hg (by simp [pIn]; omega))
        clear hg hq
        go_wp2
        go_quiet (fail)
        go_wp2
        go_roundw
        case rel => exact ⟨i + 1, by omega, by go_num, HU2, Lib.hid (below_drewN HBr.out _)⟩
        case measure => simp [intOf]; omega
    · obtain rfl : i = m := by omega
      obtain ⟨t1, t2⟩ := told_end (L := allL f n) (p := pIn a) (by rw [← HL.out]; exact HU.out)
      have T1 := Lib.hid (show (foundV (allL f n) (pIn a)).1 = 0 by rw [t1])
      have T2 := Lib.hid t2
      clear t1 t2
      go_wp2
      go_ret2
      exact ⟨rtuple T1.out T2.out, HB1.out.trans (HBr.out.mono hz1)⟩
end
end Go.Proofs.YtlmaeppckaempaaDoor
