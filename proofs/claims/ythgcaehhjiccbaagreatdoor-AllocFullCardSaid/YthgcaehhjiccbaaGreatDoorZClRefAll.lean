/-
  The reference's All, On, Start and Next of cells.
-/
import Derived.Test.YthgcaehhjiccbaaGreatDoorHpZG
namespace Go.Proofs.YthgcaehhjiccbaaGreatDoor.Cl
open Go.Proofs.YthgcaehhjiccbaaGreatDoor
set_option maxRecDepth 100000
open Go.RowKit

/-- The first i cells begin below q, the others not. -/
def CutAt (L : List (Int × Int)) (i : Nat) (q : Int) : Prop := (∀ j c, j < i → L[j]? = some c → c.1 < q) ∧ (∀ j c, i ≤ j → L[j]? = some c → q ≤ c.1)
theorem cut_hit {L : List (Int × Int)} (ha : Apart L) {i : Nat} {q : Int} (h : CutAt L i q) {c : Int × Int} (hc : c ∈ L) (hq : c.1 = q) : L[i]? = some c ∧ CutAt L (i + 1) (q + 1) := by
  obtain ⟨j, hj⟩ := List.getElem?_of_mem hc
  have hi : i ≤ j := by
    rcases Nat.lt_or_ge j i with hlt | hge
    · have := h.1 j c hlt hj
      omega
    · exact hge
  have e : i = j := by
    by_cases hlt : i < j
    · exfalso
      have hjl := (List.getElem?_eq_some_iff.1 hj).1
      obtain ⟨d, hd⟩ : ∃ d, L[i]? = some d := ⟨_, List.getElem?_eq_getElem (by omega)⟩
      have h1 := ha.rise hlt hd hj
      have h2 := h.2 i d (Nat.le_refl _) hd
      have h3 := (ha.2 d (List.mem_of_getElem? hd)).2
      omega
    · omega
  subst e
  refine ⟨hj, fun j' c' hj' hc' => ?_, fun j' c' hj' hc' => ?_⟩
  · by_cases e : j' = i
    · subst e
      rw [hj] at hc'
      cases hc'
      omega
    · have := h.1 j' c' (by omega) hc'
      omega
  · have h1 := ha.rise (by omega) hj hc'
    have h3 := (ha.2 c hc).2
    omega
theorem cut_miss {L : List (Int × Int)} {i : Nat} {q : Int} (h : CutAt L i q) (hn : ¬ ∃ c, c ∈ L ∧ c.1 = q) : CutAt L i (q + 1) := by
  refine ⟨fun j c hj hc => by have := h.1 j c hj hc; omega, fun j c hj hc => ?_⟩
  have h1 := h.2 j c hj hc
  have h2 : c.1 ≠ q := fun e => hn ⟨c, List.mem_of_getElem? hc, e⟩
  omega
theorem cut_end {L : List (Int × Int)} {i : Nat} {q : Int} (h : CutAt L i q) (hq : ∀ c ∈ L, c.1 < q) : L.length ≤ i := by
  rcases Nat.lt_or_ge i L.length with hlt | hge
  · have h1 := h.2 i _ (Nat.le_refl _) (List.getElem?_eq_getElem hlt)
    have h2 := hq _ (List.getElem_mem hlt)
    omega
  · exact hge
theorem allS_short (f : Nat → Int × Int) (n i : Nat) : ((allS f n).take i).length ≤ 512 := by
  have h1 : (allS f n).length = (allL f n).length := by simp [allS]
  have h2 := allL_length f n
  rw [List.length_take]
  omega
theorem allS_step {f : Nat → Int × Int} {n j : Nat} {c : Int × Int} (h : (allL f n)[j]? = some c) : (allS f n).take (j + 1) = (allS f n).take j ++ [c.1] := take_next (by simp [allS, h])
theorem allS_full {f : Nat → Int × Int} {n i : Nat} (h : (allL f n).length ≤ i) : (allS f n).take i = allS f n := List.take_of_length_le (by simp only [allS, List.length_map]; exact h)

section
variable (B : Nat) (A : Option Addr) (n c : Nat) (f : Nat → Int × Int) (a : Int) (w : World)

set_option maxHeartbeats 1000000 in
theorem rall_any (hn : n ≤ 1000) (hr : PRow w B A n f) (hB : B ≤ w.heap.size) :
    Calls Tryz.prog 87 #[.slice A n c] w (Listed w (allS f n)) := by
  have HR := Lib.hid hr
  clear hr
  go_enter Tryz.func87, Tryz.ntmps87
  go_wp2
  go_loopw [3, 4] (fun o p wr => ∃ (q : Int) (i : Nat), 16 ≤ q ∧ q ≤ 16 + 16 * (n : Int) ∧ p = .int .i64 q ∧ Hid (Lst w.heap.size wr o ((allS f n).take i)) ∧ Hid (CutAt (allL f n) i q) ∧ Hid (Below w.heap.size w wr)) (fun _ p _ => (16 + 16 * (n : Int) - intOf p).toNat)
  case atStart => exact ⟨16, 0, by omega, by omega, rfl, Lib.hid (Lst.nil _ _), Lib.hid ⟨fun j c h _ => absurd h (by omega), fun j c _ hc => ((allL_apart f n).2 c (List.mem_of_getElem? hc)).1⟩, Lib.hid (Below.refl _ _)⟩
  case round =>
    obtain ⟨q, i, hq0, hq1, rfl, HO, HC, HBr⟩ := hrel
    have hzr := HBr.out.size
    by_cases hlt : q < 16 + 16 * (n : Int)
    · have dq : decide (q < 16 + 16 * (n : Int)) = true := by simpa using hlt
      obtain ⟨b, HBg⟩ : ∃ b, Hid (bg f n q = b) := ⟨_, Lib.hid rfl⟩
      have hbn := bg_nonneg f n q
      rw [HBg.out] at hbn
      by_cases hb0 : 0 < b
      · have db : decide (0 < b) = true := by simpa using hb0
        have hex : ∃ c, c ∈ allL f n ∧ c.1 = q := bg_some (by rw [HBg.out]; exact hb0)
        obtain ⟨c, hc, hcq⟩ := hex
        obtain ⟨hg, hcut⟩ := cut_hit (allL_apart f n) HC.out hc hcq
        have HT := Lib.hid (allS_step hg)
        have hst := HT.out
        rw [hcq] at hst
        have HT2 := Lib.hid hst
        have HC2 := Lib.hid hcut
        have hsh := allS_short f n i
        clear hc hcq hg hcut hst HT
        go_wp2_with fail
        refine (rbegins_any B A n _ f q _ hn (HR.out.over HBr.out hB) (by omega)).mono ?_
        rintro e w1 ⟨rfl, hb1⟩
        rw [HBg.out]
        have HB1 := Lib.hid (HBr.out.trans (hb1.mono hzr))
        have HO1 := Lib.hid (HO.out.over hb1)
        have hz1 := HB1.out.size
        clear hb1
        go_wp2_with (at_builtin; refine list_cat rfl _ _ rfl rfl rfl rfl (HO1.out.over ((Below.refl _ _).alloc (Nat.le_refl _) _)) (row_lit1 _ q) (by simp; omega) (by simp only [List.length_singleton]; omega) ?_; intro v' w2 hl2 hb2; have HO2 := Lib.hid hl2; have HB2 := Lib.hid ((HB1.out.alloc hz1 _).trans hb2); clear hl2 hb2)
        exact ⟨⟨q + 1, i + 1, by omega, by omega, by go_num, Lib.hid (by rw [HT2.out]; exact HO2.out), HC2, HB2⟩, by simp [intOf]; omega⟩
      · have db : decide (0 < b) = false := by simpa using hb0
        have HC2 := Lib.hid (cut_miss HC.out (fun ⟨c, hc, hcq⟩ => by
          have h1 := bg_cell hc
          rw [hcq, HBg.out] at h1
          have h2 := ((allL_apart f n).2 c hc).2
          omega))
        go_wp2_with fail
        refine (rbegins_any B A n _ f q _ hn (HR.out.over HBr.out hB) (by omega)).mono ?_
        rintro e w1 ⟨rfl, hb1⟩
        rw [HBg.out]
        have HB1 := Lib.hid (HBr.out.trans (hb1.mono hzr))
        have HO1 := Lib.hid (HO.out.over hb1)
        clear hb1
        go_wp2
        go_roundw
        case rel => exact ⟨q + 1, i, by omega, by omega, by go_num, HO1, HC2, HB1⟩
        case measure => simp [intOf]; omega
    · obtain rfl : q = 16 + 16 * (n : Int) := by omega
      have hfull := allS_full (cut_end HC.out (fun c hc => by
        have h1 := (allL_end hc).2
        have h2 := ((allL_apart f n).2 c hc).2
        omega))
      have hO := HO.out
      rw [hfull] at hO
      obtain ⟨a1, c1, rfl, hr1, hc1, hcm1⟩ := hO.row
      have HL : Hid (Listed w (allS f n) (.returned (.slice a1 (allS f n).length c1)) wr) := Lib.hid ⟨a1, c1, rfl, hr1, hc1, hcm1, HBr.out⟩
      obtain ⟨m, hm⟩ : ∃ m, m = (allS f n).length := ⟨_, rfl⟩
      rw [← hm] at HL ⊢
      clear hr1 hc1 hcm1 hO hfull HO hm
      go_wp2
      go_ret
      exact HL.out
end
end Go.Proofs.YthgcaehhjiccbaaGreatDoor.Cl
