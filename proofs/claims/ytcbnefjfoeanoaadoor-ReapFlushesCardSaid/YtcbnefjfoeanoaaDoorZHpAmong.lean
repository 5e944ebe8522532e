/-
  Package heap's among: are all addresses of some lists, class by class, among those of others, which rise?
-/
import Derived.Test.YtcbnefjfoeanoaaDoorHpZH
import Derived.Test.YtcbnefjfoeanoaaDoorZLsApart
namespace Go.Proofs.YtcbnefjfoeanoaaDoor
open Go.RowKit
set_option maxRecDepth 100000

/-- The box of one number. -/
theorem amongK_any (w W : World) (bu bk B : Nat) (V : Nat → Ls.Sl) (G : Nat → List Int) (j : Nat) (hj : j < 3) (x : Int) (hx : Ls.Box3 w bu V) (hk : w.cell? ⟨bk, 0, none⟩ = some (.int .i64 j)) (hkl : bk < w.heap.size) (hl : Ls.L3 w B V G) (hB : B ≤ w.heap.size) (hs : (G j).Pairwise (· ≤ ·)) (hn : (G j).length ≤ 1000000) (hb : Below w.heap.size w W) :
    Calls Tryd.prog 72 #[.int .i64 x, .pointer (some ⟨bu, 0, none⟩), .pointer (some ⟨bk, 0, none⟩)] W fun e w' => e = .returned (.bool (!decide (x ∈ G j))) ∧ ∃ q, w' = W.drewN q := by
  have hX := hx.next hb
  have c0 := hX.cell j hj
  have cl := hX.lt
  have k0 := (hb.cell (p := ⟨bk, 0, none⟩) hkl).trans hk
  have kl : bk < W.heap.size := by have := hb.size; omega
  have hr := (hl.below (hb.mono hB)) j hj
  have HR := Lib.hid hr.1
  have HS := Lib.hid hs
  have hn2 : (V j).n ≤ 100000000 := by have := hr.1.1; omega
  have j0 : (0 : Int) ≤ j := by omega
  have j1 : (j : Int) < 3 := by omega
  clear hX hr hs hl hk hx hb hn
  go_enter Tryd.func72, Tryd.ntmps72
  go_wp2_with fail
  refine (has_any B _ _ _ (G j) x _ hn2 HR.out HS.out).mono ?_
  rintro e w1 ⟨rfl, q, rfl⟩
  go_wp2
  go_ret
  exact ⟨rbool (by simp), q, rfl⟩
/-- Are all of a list among those of its class? -/
def inB (G : Nat → List Int) (j : Nat) (xs : List Int) : Bool := xs.all fun x => decide (x ∈ G j)
theorem cont_any (w : World) (bu bk B n c : Nat) (A : Option Addr) (xs : List Int) (V : Nat → Ls.Sl) (G : Nat → List Int) (j : Nat) (hj : j < 3) (hx : Ls.Box3 w bu V) (hk : w.cell? ⟨bk, 0, none⟩ = some (.int .i64 j)) (hkl : bk < w.heap.size) (hl : Ls.L3 w B V G) (hB : B ≤ w.heap.size) (hs : (G j).Pairwise (· ≤ ·)) (hn : (G j).length ≤ 1000000) (hr : Row w B A n xs) (hn2 : n ≤ 9223372036854775807) :
    Calls Tryd.prog 71 #[.slice A n c, .func (.func 72) #[] #[.pointer (some ⟨bu, 0, none⟩), .pointer (some ⟨bk, 0, none⟩)]] w fun e w' => e = .returned (.bool (!inB G j xs)) ∧ ∃ q, w' = w.drewN q := by
  by_cases h0 : n = 0
  · subst h0
    obtain rfl := hr.zero
    exact Tryd.slices_ContainsFunc_empty (α := Int) A c _ w |>.mono fun e w' h => ⟨h.1, 0, h.2⟩
  · obtain ⟨b, off, rfl, _, hc⟩ := hr.2 (by omega)
    have hl2 := hr.1
    have h := Tryd.slices_ContainsFunc (Value.int .i64) (fun x => !decide (x ∈ G j)) 72 #[.pointer (some ⟨bu, 0, none⟩), .pointer (some ⟨bk, 0, none⟩)] (enters_of Tryd.func72 (by kernel_rfl) rfl) b off n c xs w
      (fun W x hb => amongK_any w W bu bk B V G j hj x hx hk hkl hl hB hs hn hb) (by omega) hn2 (fun i hi => by rw [hc i (by omega)]; simp [List.getD, hi])
    rw [List.take_of_length_le (by omega)] at h
    have e : xs.any (fun x => !decide (x ∈ G j)) = !inB G j xs := by
      unfold inB
      rw [List.not_all_eq_any_not]
    rw [e] at h
    exact h
def amongB (n : Nat) (F : Nat → Nat → List Int) (G : Nat → List Int) : Bool := (List.range n).all fun k => (List.range 3).all fun j => inB G j (F k j)
theorem amongB_no {n k j : Nat} {F : Nat → Nat → List Int} {G : Nat → List Int} (hk : k < n) (hj : j < 3) (h : inB G j (F k j) = false) : amongB n F G = false := by
  cases e : amongB n F G
  · rfl
  · have h1 := List.all_eq_true.1 e k (List.mem_range.2 hk)
    have h2 := List.all_eq_true.1 h1 j (List.mem_range.2 hj)
    rw [h] at h2
    cases h2
theorem amongB_yes {n : Nat} {F : Nat → Nat → List Int} {G : Nat → List Int} (h : ∀ k, k < n → ∀ j, j < 3 → inB G j (F k j) = true) : amongB n F G = true :=
  List.all_eq_true.2 fun k hk => List.all_eq_true.2 fun j hj => h k (List.mem_range.1 hk) j (List.mem_range.1 hj)
section
variable (w : World) (B n c : Nat) (A : Option Addr) (U : Nat → Nat → Ls.Sl) (F : Nat → Nat → List Int) (V : Nat → Ls.Sl) (G : Nat → List Int)
set_option maxHeartbeats 2000000 in
theorem among_core (R : Bool) (hR : R = amongB n F G) (hl : Ls.LRow w B A n U F) (h3 : Ls.L3 w B V G) (hB : B ≤ w.heap.size) (hs : ∀ j, j < 3 → (G j).Pairwise (· ≤ ·)) (hn : n ≤ 2000) (hg : ∀ j, j < 3 → (G j).length ≤ 1000000) (hf : ∀ k, k < n → ∀ j, j < 3 → (F k j).length ≤ 9223372036854775807) :
    Calls Tryd.prog 46 #[.slice A n c, (.agg #[.slice (V 0).a (V 0).n (V 0).c, .slice (V 1).a (V 1).n (V 1).c, .slice (V 2).a (V 2).n (V 2).c])] w fun e w' => e = .returned (.bool R) ∧ Below w.heap.size w w' := by
  have HR := Lib.hid hR
  have HL := Lib.hid hl
  have H3 := Lib.hid h3
  have HS := Lib.hid hs
  have HG := Lib.hid hg
  have HF := Lib.hid hf
  clear hR hl h3 hs hg hf
  go_enter Tryd.func46, Tryd.ntmps46
  have X0 := Lib.hid (Ls.Box3.new w V 25)
  have B0 := Lib.hid ((Below.refl w.heap.size w).alloc (Nat.le_refl _) (.cells #[.slice (V 0).a (V 0).n (V 0).c, .slice (V 1).a (V 1).n (V 1).c, .slice (V 2).a (V 2).n (V 2).c] 25))
  go_wp2
  go_loopw [11] (fun i wr => ∃ k : Nat, k ≤ n ∧ i = .int .i64 k ∧ Hid (∀ k', k' < k → ∀ j, j < 3 → inB G j (F k' j) = true) ∧ Hid (Ls.Box3 wr w.heap.size V ∧ Below w.heap.size w wr)) (fun i _ => n - (intOf i).toNat)
  case atStart => exact ⟨0, Nat.zero_le _, rfl, Lib.hid (fun k h => absurd h (by omega)), Lib.hid ⟨X0.out, B0.out⟩⟩
  case round =>
    obtain ⟨k, hk, rfl, HK, HX⟩ := hrel
    by_cases hlt : k < n
    · obtain ⟨b, off, rfl, hbB, hc⟩ := HL.out.over HX.out.2 hB (by omega)
      obtain ⟨hcell, hl3⟩ := hc k hlt
      have c0 := hcell 0 (by decide)
      have c1 := hcell 1 (by decide)
      have c2 := hcell 2 (by decide)
      rw [Nat.add_zero] at c0
      have hbs : b < wr.heap.size := by have := HX.out.2.size; omega
      have HR3 := Lib.hid hl3
      have hwr := HX.out.2.size
      have k0 : (0 : Int) ≤ k := by omega
      have k1 : (k : Int) < n := by omega
      clear hc hcell hl3
      obtain ⟨wo, rfl⟩ : ∃ wo : World, wo = wr := ⟨_, rfl⟩
      go_wp2
      go_loopw [16] (fun i wr => ∃ j : Nat, j ≤ 3 ∧ i = .int .i64 j ∧ Hid (∀ j', j' < j → inB G j' (F k j') = true) ∧ Hid (Ls.Box3 wr w.heap.size V ∧ Below w.heap.size w wr ∧ Below wo.heap.size wo wr)) (fun i _ => 3 - (intOf i).toNat)
      case atStart => 
        refine ⟨0, by omega, rfl, Lib.hid (fun j h => absurd h (by omega)), Lib.hid ⟨HX.out.1.alloc _, HX.out.2.alloc hwr _, (Below.refl _ _).alloc (Nat.le_refl _) _⟩⟩
      case round =>
        obtain ⟨j, hj, rfl, HJ, HI⟩ := hrel
        by_cases hlt3 : j < 3
        · have hix := Ls.index_of (U k) j hlt3
          have hwr2 := HI.out.2.1.size
          have HC := Lib.hid (cont_any (wr.alloc (.cells #[.int .i64 j] 3)) w.heap.size wr.heap.size B (U k j).n (U k j).c (U k j).a (F k j) V G j hlt3 (HI.out.1.alloc _) (by simp [go_sem]) (by simp) (H3.out.over (HI.out.2.1.alloc hwr2 _) hB) (by simp; omega) (HS.out j hlt3) (HG.out j hlt3)
            ((HR3.out j hlt3).1.below ((HI.out.2.2.alloc HI.out.2.2.size _).mono (by omega))) (by have := HF.out k hlt j hlt3; have := (HR3.out j hlt3).1.1; omega))
          have J3 := Lib.hid hlt3
          have j0 : (0 : Int) ≤ j := by omega
          have j1 : (j : Int) < 3 := by omega
          go_wp2_with fail
          refine HC.out.mono ?_
          rintro e w4 ⟨rfl, q4, hw4⟩
          have HW := Lib.hid hw4
          clear hw4 hix
          have HN := Lib.hid (show Ls.Box3 w4 w.heap.size V ∧ Below w.heap.size w w4 ∧ Below wo.heap.size wo w4 by
            rw [HW.out]
            exact ⟨(HI.out.1.alloc _).drewN _, below_drawn' (HI.out.2.1.alloc hwr2 _) _, below_drawn' (HI.out.2.2.alloc HI.out.2.2.size _) _⟩)
          cases hin : inB G j (F k j)
          · have hR0 : R = false := by rw [HR.out]; exact amongB_no hlt hlt3 hin
            subst hR0
            clear hin
            go_wp2
            go_ret
            exact ⟨rfl, HN.out.2.1⟩
          · have HJ2 : Hid (∀ j', j' < j + 1 → inB G j' (F k j') = true) := Lib.hid (fun j' hj' => by
              by_cases e : j' = j
              · rw [e]; exact hin
              · exact HJ.out j' (by omega))
            clear hin
            go_wp2
            go_roundw
            case rel => exact ⟨j + 1, J3.out, by go_num, HJ2, HN⟩
            case measure => simp [intOf]; omega
        · obtain rfl : j = 3 := by omega
          have HK2 : Hid (∀ k', k' < k + 1 → ∀ j, j < 3 → inB G j (F k' j) = true) := Lib.hid (fun k' hk' j hj => by
            by_cases e : k' = k
            · rw [e]; exact HJ.out j hj
            · exact HK.out k' (by omega) j hj)
          have HX2 := Lib.hid (And.intro HI.out.1 HI.out.2.1)
          go_wp2
          go_roundw
          case rel => exact ⟨k + 1, by omega, by go_num, HK2, HX2⟩
          case measure => simp [intOf]; omega
    · obtain rfl : k = n := by omega
      have hRt : R = true := by rw [HR.out]; exact amongB_yes HK.out
      subst hRt
      go_wp2
      go_ret
      exact ⟨rfl, HX.out.2⟩
theorem among_any (hl : Ls.LRow w B A n U F) (h3 : Ls.L3 w B V G) (hB : B ≤ w.heap.size) (hs : ∀ j, j < 3 → (G j).Pairwise (· ≤ ·)) (hn : n ≤ 2000) (hg : ∀ j, j < 3 → (G j).length ≤ 1000000) (hf : ∀ k, k < n → ∀ j, j < 3 → (F k j).length ≤ 9223372036854775807) :
    Calls Tryd.prog 46 #[.slice A n c, (.agg #[.slice (V 0).a (V 0).n (V 0).c, .slice (V 1).a (V 1).n (V 1).c, .slice (V 2).a (V 2).n (V 2).c])] w fun e w' => e = .returned (.bool (amongB n F G)) ∧ Below w.heap.size w w' := among_core w B n c A U F V G _ rfl hl h3 hB hs hn hg hf
end
end Go.Proofs.YtcbnefjfoeanoaaDoor
