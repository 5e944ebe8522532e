/-
  Merged texts: HpAmong, HpPure, HpConcat, HpMayP, HpUsedP, HpUsed, HpHeadP, HpFew, HpObj, FrHeap, FrAny, ShKs.
-/
import Derived.Test.YtccjelpfmkbmiaaGreatDoorHpXF
import Derived.Test.YtccjelpfmkbmiaaGreatDoorHpXE
import Derived.Test.YtccjelpfmkbmiaaGreatDoorXHpMayK
import Derived.Test.YtccjelpfmkbmiaaGreatDoorHpXD
import Derived.LoopN
import Derived.RangeFuncBox
import Derived.Deep.RegionHeld3
import Derived.Deep.Upon
import Derived.Test.YtccjelpfmkbmiaaGreatDoorHpXA
section
namespace Go.Proofs.YtccjelpfmkbmiaaGreatDoor
open Go.RowKit
set_option maxRecDepth 100000

/-- The box of one number. -/
theorem amongK_any (w W : World) (bu bk B : Nat) (V : Nat → Ls.Sl) (G : Nat → List Int) (j : Nat) (hj : j < 3) (x : Int) (hx : Ls.Box3 w bu V) (hk : w.cell? ⟨bk, 0, none⟩ = some (.int .i64 j)) (hkl : bk < w.heap.size) (hl : Ls.L3 w B V G) (hB : B ≤ w.heap.size) (hs : (G j).Pairwise (· ≤ ·)) (hn : (G j).length ≤ 1000000) (hb : Below w.heap.size w W) :
    Calls Tryz.prog 103 #[.int .i64 x, .pointer (some ⟨bu, 0, none⟩), .pointer (some ⟨bk, 0, none⟩)] W fun e w' => e = .returned (.bool (!decide (x ∈ G j))) ∧ ∃ q, w' = W.drewN q := by
  have hX := hx.next hb
  have c0 := hX.cell j hj
  have cl := hX.lt
  have k0 := (hb.cell (p := ⟨bk, 0, none⟩) hkl).trans hk
  have kl : bk < W.heap.size := by have := hb.size; omega
  have hr := (hl.below (hb.mono hB)) j hj
  have HR := Lib.hid hr.1
  have HS := Lib.hid hs
  have hn2 : (V j).n ≤ 100000000 := by have := hr.1.1; omega
  have j0 : (0 : Int) ≤ j := by omega
  have j1 : (j : Int) < 3 := by omega
  clear hX hr hs hl hk hx hb hn
  go_enter Tryz.func103, Tryz.ntmps103
  go_wp2_with fail
  refine (has_any B _ _ _ (G j) x _ hn2 HR.out HS.out).mono ?_
  rintro e w1 ⟨rfl, q, rfl⟩
  go_wp2
  go_ret
  exact ⟨rbool (by simp), q, rfl⟩
/-- Are all of a list among those of its class? -/
def inB (G : Nat → List Int) (j : Nat) (xs : List Int) : Bool := xs.all fun x => decide (x ∈ G j)
theorem cont_any (w : World) (bu bk B n c : Nat) (A : Option Addr) (xs : List Int) (V : Nat → Ls.Sl) (G : Nat → List Int) (j : Nat) (hj : j < 3) (hx : Ls.Box3 w bu V) (hk : w.cell? ⟨bk, 0, none⟩ = some (.int .i64 j)) (hkl : bk < w.heap.size) (hl : Ls.L3 w B V G) (hB : B ≤ w.heap.size) (hs : (G j).Pairwise (· ≤ ·)) (hn : (G j).length ≤ 1000000) (hr : Row w B A n xs) (hn2 : n ≤ 9223372036854775807) :
    Calls Tryz.prog 102 #[.slice A n c, .func (.func 103) #[] #[.pointer (some ⟨bu, 0, none⟩), .pointer (some ⟨bk, 0, none⟩)]] w fun e w' => e = .returned (.bool (!inB G j xs)) ∧ ∃ q, w' = w.drewN q := by
  by_cases h0 : n = 0
  · subst h0
    obtain rfl := hr.zero
    exact Tryz.slices_ContainsFunc_empty (α := Int) A c _ w |>.mono fun e w' h => ⟨h.1, 0, h.2⟩
  · obtain ⟨b, off, rfl, _, hc⟩ := hr.2 (by omega)
    have hl2 := hr.1
    have h := Tryz.slices_ContainsFunc (Value.int .i64) (fun x => !decide (x ∈ G j)) 103 #[.pointer (some ⟨bu, 0, none⟩), .pointer (some ⟨bk, 0, none⟩)] (enters_of Tryz.func103 (by kernel_rfl) rfl) b off n c xs w
      (fun W x hb => amongK_any w W bu bk B V G j hj x hx hk hkl hl hB hs hn hb) (by omega) hn2 (fun i hi => by rw [hc i (by omega)]; simp [List.getD, hi])
    rw [List.take_of_length_le (by omega)] at h
    have e : xs.any (fun x => !decide (x ∈ G j)) = !inB G j xs := by
      unfold inB
      rw [List.not_all_eq_any_not]
    rw [e] at h
    exact h
def amongB (n : Nat) (F : Nat → Nat → List Int) (G : Nat → List Int) : Bool := (List.range n).all fun k => (List.range 3).all fun j => inB G j (F k j)
theorem amongB_no {n k j : Nat} {F : Nat → Nat → List Int} {G : Nat → List Int} (hk : k < n) (hj : j < 3) (h : inB G j (F k j) = false) : amongB n F G = false := by
  cases e : amongB n F G
  · rfl
  · have h1 := List.all_eq_true.1 e k (List.mem_range.2 hk)
    have h2 := List.all_eq_true.1 h1 j (List.mem_range.2 hj)
    rw [h] at h2
    cases h2
theorem amongB_yes {n : Nat} {F : Nat → Nat → List Int} {G : Nat → List Int} (h : ∀ k, k < n → ∀ j, j < 3 → inB G j (F k j) = true) : amongB n F G = true :=
  List.all_eq_true.2 fun k hk => List.all_eq_true.2 fun j hj => h k (List.mem_range.1 hk) j (List.mem_range.1 hj)
section
variable (w : World) (B n c : Nat) (A : Option Addr) (U : Nat → Nat → Ls.Sl) (F : Nat → Nat → List Int) (V : Nat → Ls.Sl) (G : Nat → List Int)
set_option maxHeartbeats 2000000 in
theorem among_core (R : Bool) (hR : R = amongB n F G) (hl : Ls.LRow w B A n U F) (h3 : Ls.L3 w B V G) (hB : B ≤ w.heap.size) (hs : ∀ j, j < 3 → (G j).Pairwise (· ≤ ·)) (hn : n ≤ 2000) (hg : ∀ j, j < 3 → (G j).length ≤ 1000000) (hf : ∀ k, k < n → ∀ j, j < 3 → (F k j).length ≤ 9223372036854775807) :
    Calls Tryz.prog 66 #[.slice A n c, (.agg #[.slice (V 0).a (V 0).n (V 0).c, .slice (V 1).a (V 1).n (V 1).c, .slice (V 2).a (V 2).n (V 2).c])] w fun e w' => e = .returned (.bool R) ∧ Below w.heap.size w w' := by
  have HR := Lib.hid hR
  have HL := Lib.hid hl
  have H3 := Lib.hid h3
  have HS := Lib.hid hs
  have HG := Lib.hid hg
  have HF := Lib.hid hf
  clear hR hl h3 hs hg hf
  go_enter Tryz.func66, Tryz.ntmps66
  have X0 := Lib.hid (Ls.Box3.new w V 25)
  have B0 := Lib.hid ((Below.refl w.heap.size w).alloc (Nat.le_refl _) (.cells #[.slice (V 0).a (V 0).n (V 0).c, .slice (V 1).a (V 1).n (V 1).c, .slice (V 2).a (V 2).n (V 2).c] 25))
  go_wp2
  go_loopw [11] (fun i wr => ∃ k : Nat, k ≤ n ∧ i = .int .i64 k ∧ Hid (∀ k', k' < k → ∀ j, j < 3 → inB G j (F k' j) = true) ∧ Hid (Ls.Box3 wr w.heap.size V ∧ Below w.heap.size w wr)) (fun i _ => n - (intOf i).toNat)
  case atStart => exact ⟨0, Nat.zero_le _, rfl, Lib.hid (fun k h => absurd h (by omega)), Lib.hid ⟨X0.out, B0.out⟩⟩
  case round =>
    obtain ⟨k, hk, rfl, HK, HX⟩ := hrel
    by_cases hlt : k < n
    · obtain ⟨b, off, rfl, hbB, hc⟩ := HL.out.over HX.out.2 hB (by omega)
      obtain ⟨hcell, hl3⟩ := hc k hlt
      have c0 := hcell 0 (by decide)
      have c1 := hcell 1 (by decide)
      have c2 := hcell 2 (by decide)
      rw [Nat.add_zero] at c0
      have hbs : b < wr.heap.size := by have := HX.out.2.size; omega
      have HR3 := Lib.hid hl3
      have hwr := HX.out.2.size
      have k0 : (0 : Int) ≤ k := by omega
      have k1 : (k : Int) < n := by omega
      clear hc hcell hl3
      obtain ⟨wo, rfl⟩ : ∃ wo : World, wo = wr := ⟨_, rfl⟩
      go_wp2
      go_loopw [16] (fun i wr => ∃ j : Nat, j ≤ 3 ∧ i = .int .i64 j ∧ Hid (∀ j', j' < j → inB G j' (F k j') = true) ∧ Hid (Ls.Box3 wr w.heap.size V ∧ Below w.heap.size w wr ∧ Below wo.heap.size wo wr)) (fun i _ => 3 - (intOf i).toNat)
      case atStart => 
        refine ⟨0, by omega, rfl, Lib.hid (fun j h => absurd h (by omega)), Lib.hid ⟨HX.out.1.alloc _, HX.out.2.alloc hwr _, (Below.refl _ _).alloc (Nat.le_refl _) _⟩⟩
      case round =>
        obtain ⟨j, hj, rfl, HJ, HI⟩ := hrel
        by_cases hlt3 : j < 3
        · have hix := Ls.index_of (U k) j hlt3
          have hwr2 := HI.out.2.1.size
          have HC := Lib.hid (cont_any (wr.alloc (.cells #[.int .i64 j] 3)) w.heap.size wr.heap.size B (U k j).n (U k j).c (U k j).a (F k j) V G j hlt3 (HI.out.1.alloc _) (by simp [go_sem]) (by simp) (H3.out.over (HI.out.2.1.alloc hwr2 _) hB) (by simp; omega) (HS.out j hlt3) (HG.out j hlt3)
            ((HR3.out j hlt3).1.below ((HI.out.2.2.alloc HI.out.2.2.size _).mono (by omega))) (by have := HF.out k hlt j hlt3; have := (HR3.out j hlt3).1.1; omega))
          have J3 := Lib.hid hlt3
          have j0 : (0 : Int) ≤ j := by omega
          have j1 : (j : Int) < 3 := by omega
          go_wp2_with fail
          refine HC.out.mono ?_
          rintro e w4 ⟨rfl, q4, hw4⟩
          have HW := Lib.hid hw4
          clear hw4 hix
          have HN := Lib.hid (show Ls.Box3 w4 w.heap.size V ∧ Below w.heap.size w w4 ∧ Below wo.heap.size wo w4 by
            rw [HW.out]
            exact ⟨(HI.out.1.alloc _).drewN _, below_drawn' (HI.out.2.1.alloc hwr2 _) _, below_drawn' (HI.out.2.2.alloc HI.out.2.2.size _) _⟩)
          cases hin : inB G j (F k j)
          · have hR0 : R = false := by rw [HR.out]; exact amongB_no hlt hlt3 hin
            subst hR0
            clear hin
            go_wp2
            go_ret
            exact ⟨rfl, HN.out.2.1⟩
          · have HJ2 : Hid (∀ j', j' < j + 1 → inB G j' (F k j') = true) := Lib.hid (fun j' hj' => by
              by_cases e : j' = j
              · rw [e]; exact hin
              · exact HJ.out j' (by omega))
            clear hin
            go_wp2
            go_roundw
            case rel => exact ⟨j + 1, J3.out, by go_num, HJ2, HN⟩
            case measure => simp [intOf]; omega
        · obtain rfl : j = 3 := by omega
          have HK2 : Hid (∀ k', k' < k + 1 → ∀ j, j < 3 → inB G j (F k' j) = true) := Lib.hid (fun k' hk' j hj => by
            by_cases e : k' = k
            · rw [e]; exact HJ.out j hj
            · exact HK.out k' (by omega) j hj)
          have HX2 := Lib.hid (And.intro HI.out.1 HI.out.2.1)
          go_wp2
          go_roundw
          case rel => exact ⟨k + 1, by omega, by go_num, HK2, HX2⟩
          case measure => simp [intOf]; omega
    · obtain rfl : k = n := by omega
      have hRt : R = true := by rw [HR.out]; exact amongB_yes HK.out
      subst hRt
      go_wp2
      go_ret
      exact ⟨rfl, HX.out.2⟩
theorem among_any (hl : Ls.LRow w B A n U F) (h3 : Ls.L3 w B V G) (hB : B ≤ w.heap.size) (hs : ∀ j, j < 3 → (G j).Pairwise (· ≤ ·)) (hn : n ≤ 2000) (hg : ∀ j, j < 3 → (G j).length ≤ 1000000) (hf : ∀ k, k < n → ∀ j, j < 3 → (F k j).length ≤ 9223372036854775807) :
    Calls Tryz.prog 66 #[.slice A n c, (.agg #[.slice (V 0).a (V 0).n (V 0).c, .slice (V 1).a (V 1).n (V 1).c, .slice (V 2).a (V 2).n (V 2).c])] w fun e w' => e = .returned (.bool (amongB n F G)) ∧ Below w.heap.size w w' := among_core w B n c A U F V G _ rfl hl h3 hB hs hn hg hf
end
end Go.Proofs.YtccjelpfmkbmiaaGreatDoor
end
section
namespace Go.Proofs.YtccjelpfmkbmiaaGreatDoor

/-- A cell's page. -/
theorem page_of {d : Hd_} {n : Nat} {a : Int} (h : a ∈ Cl.allS d.f n) : (a / 16 - 1).toNat < n ∧ Cl.pmB (pgAt d a) = true ∧ (((pgAt d a).1 = 1 ∧ 0 ≤ (pgAt d a).2 ∧ (pgAt d a).2 ≤ 2) ∨ ((pgAt d a).1 = 2 ∧ 1 ≤ (pgAt d a).2 ∧ (pgAt d a).2 ≤ 4)) := by
  obtain ⟨c, hc, rfl⟩ := List.mem_map.1 h
  obtain ⟨_, k, j, hk, hj, hp, e, h0, h1⟩ := Cl.cell_page hc
  have hk2 : (c.1 / 16 - 1).toNat = k := by rw [e]; simp only; omega
  have e2 : pgAt d c.1 = d.f k := by unfold pgAt; rw [hk2]
  rw [e2, hk2]
  refine ⟨hk, hp, ?_⟩
  have h3 := (Cl.num_kind hp).1 (by omega)
  rcases (Cl.pmB_iff _).1 hp with h | h | h | h
  · omega
  · exact .inl h
  · exact .inr h
  · omega
theorem run_class {n : Int} (h : Cl.runErr n = 0) : Cl.classErr n = 0 := by
  unfold Cl.runErr at h
  unfold Cl.classErr
  split at h
  · omega
  · split at h
    · omega
    · next h1 h2 => rw [if_neg h1, if_neg h2]
theorem holds_cell {d : Hd_} {n : Nat} {a : Int} (h : a ∈ Cl.allS d.f n) : holdsAt d (askM d) a = cellAt d a := by
  have hp := (page_of h).2.2
  unfold holdsAt cellAt cellB askM fillsB
  rw [show d.ws.getD (a - 16).toNat 0 = wd d a from rfl, show d.f (a / 16 - 1).toNat = pgAt d a from rfl]
  generalize wd d a = x at hp ⊢
  generalize pgAt d a = p at hp ⊢
  cases hw : Hd.isWord x
  · simp
  · by_cases hu : x % 2 = 1
    · have c1 : true = true ∧ x % 2 = 1 := ⟨rfl, hu⟩
      rw [if_pos hu, if_pos c1, Bool.true_and]
      rcases hp with ⟨h1, _⟩ | ⟨h1, _⟩
      · rw [if_neg (by omega), if_pos h1]
      · rw [if_pos h1, if_neg (by omega)]
        cases hr : (Cl.runErr (nOf x) == 0)
        · simp
        · rw [run_class (by simpa using hr)]
          rfl
    · have c1 : ¬ (true = true ∧ x % 2 = 1) := fun h => hu h.2
      rw [if_neg hu, if_neg c1, Bool.true_and, Bool.true_and]
      rcases hp with ⟨h1, _⟩ | ⟨h1, _⟩ <;> rw [h1] <;> rfl
theorem all_congr {xs : List Int} {f g : Int → Bool} (h : ∀ a ∈ xs, f a = g a) : xs.all f = xs.all g := by
  induction xs with
  | nil => rfl
  | cons x xs ih => rw [List.all_cons, List.all_cons, h x (by simp), ih (fun a ha => h a (by simp [ha]))]
theorem all_holds (d : Hd_) (n : Nat) : (Cl.allS d.f n).all (holdsAt d (askM d)) = (Cl.allS d.f n).all (cellAt d) := all_congr fun _ h => holds_cell h
/-- A cell begins just where Begins tells room. -/
theorem mem_allS {f : Nat → Int × Int} {n : Nat} {a : Int} : a ∈ Cl.allS f n ↔ ¬ Cl.bg f n a = 0 := by
  constructor
  · intro h
    obtain ⟨c, hc, rfl⟩ := List.mem_map.1 h
    rw [Cl.bg_cell hc]
    have := (Cl.allL_apart f n).2 c hc
    omega
  · intro h
    have := (Cl.bg_nonneg f n a).1
    obtain ⟨c, hc, rfl⟩ := Cl.bg_some (show 0 < Cl.bg f n a by omega)
    exact List.mem_map.2 ⟨c, hc, rfl⟩
theorem word_used {d : Hd_} {a : Int} (h : cellAt d a = true) : Hd.isWord (wd d a) = true ∧ (¬ wd d a % 2 = 1 → (pgAt d a).1 = 1 ∧ wd d a = 0) := by
  unfold cellAt cellB at h
  rw [show d.ws.getD (a - 16).toNat 0 = wd d a from rfl, show d.f (a / 16 - 1).toNat = pgAt d a from rfl] at h
  split at h
  · next hh => exact ⟨hh.1, fun hn => absurd hh.2 hn⟩
  · have h2 := (Bool.and_eq_true _ _ ▸ h : _ ∧ _)
    exact ⟨h2.1, fun hn => ⟨by simpa using h2.2, Hd.isWord_even h2.1 hn⟩⟩
theorem mem_unus {d : Hd_} {n : Nat} (hall : (Cl.allS d.f n).all (cellAt d) = true) (x : Int) (j : Nat) : decide (x ∈ unus d (Cl.allS d.f n) j) = freeH d n x (j : Nat) := by
  rw [Bool.eq_iff_iff, decide_eq_true_iff]
  unfold unus freeH
  rw [show d.ws.getD (x - 16).toNat 0 = wd d x from rfl, show d.f (x / 16 - 1).toNat = pgAt d x from rfl]
  rw [List.mem_filter, mem_allS, decide_eq_true_iff]
  by_cases hb : Cl.bg d.f n x = 0
  · rw [if_pos hb]
    simp [hb]
  · rw [if_neg hb]
    have hc := List.all_eq_true.1 hall x (mem_allS.2 hb)
    have hw := (word_used hc).2
    rw [Bool.and_eq_true, decide_eq_true_iff, beq_iff_eq]
    constructor
    · rintro ⟨_, h1, h2⟩
      exact ⟨⟨(hw h1).1, h2⟩, (hw h1).2⟩
    · rintro ⟨⟨h1, h2⟩, h3⟩
      exact ⟨hb, by rw [h3]; decide, h2⟩
theorem among_free {d : Hd_} {n N : Nat} {F : Nat → Nat → List Int} (hall : (Cl.allS d.f n).all (cellAt d) = true) : amongB N F (unus d (Cl.allS d.f n)) = freeAll d n N F := by
  unfold amongB freeAll inB
  simp only [mem_unus hall]
/-- Cells rise. -/
theorem allS_lt (f : Nat → Int × Int) (n : Nat) : (Cl.allS f n).Pairwise (· < ·) := by
  unfold Cl.allS
  rw [List.pairwise_map]
  refine List.Pairwise.imp_of_mem ?_ (Cl.allL_apart f n).1
  intro c e hc he h
  have := (Cl.allL_apart f n).2 c hc
  omega
theorem unus_rise (d : Hd_) (n j : Nat) : (unus d (Cl.allS d.f n) j).Pairwise (· ≤ ·) :=
  ((allS_lt d.f n).imp fun h => Int.le_of_lt h).sublist List.filter_sublist
theorem allS_len (f : Nat → Int × Int) (n : Nat) : (Cl.allS f n).length ≤ 512 := by
  have := Cl.allS_short f n (Cl.allS f n).length
  rwa [List.take_length] at this
end Go.Proofs.YtccjelpfmkbmiaaGreatDoor
end
section
namespace Go.Proofs.YtccjelpfmkbmiaaGreatDoor
open Go.RowKit
set_option maxRecDepth 100000

theorem run_lcat (W : World) (base B k m c g cp : Nat) (A : Option Addr) (u U : Nat → Nat → Ls.Sl) (F : Nat → Nat → List Int) (ty : TypeId) (own : W.ownsRow base 25 3 (.slice (some ⟨g, 0, none⟩) k cp) k (lcells u k)) (hr : Ls.LRow W B A m U F) (hbase : base ≤ W.heap.size) (hk : k + m ≤ 2000) :
    ∃ g' cp' w', (Builtin.append_ #[82, 82] ty #[.slice (some ⟨g, 0, none⟩) k cp, .slice A m c]).run Tryz.prog W = .ok (.slice (some ⟨g', 0, none⟩) (k + m) cp') w' ∧
      w'.ownsRow base 25 3 (.slice (some ⟨g', 0, none⟩) (k + m) cp') (k + m) (lcells u k ++ lcells U m) ∧ W.grownBy w' (some g) ∧ g' < w'.heap.size := by
  obtain ⟨i0, hi, hz0, hz1, hz2⟩ := info_parts info_l3
  have hg := (own.lt g rfl).2
  have hkc : k ≤ cp := by
    rcases own.2 with ⟨h, _⟩ | ⟨g1, c1, cur, h, _, _, h4, _⟩
    · cases h
    · simp only [Value.slice.injEq, Option.some.injEq, Addr.mk.injEq, and_true, true_and] at h
      obtain ⟨rfl, rfl⟩ := h
      exact h4
  by_cases hn : m = 0
  · subst hn
    have hsrc : Src Tryz.prog i0.size 82 (.slice A 0 c) 0 [] W := by
      rw [hz1]
      cases A with
      | none => exact Src.ofNil _ Tryz.underlying82 c
      | some a => exact Src.ofSlice _ Tryz.underlying82 a 0 c [] rfl (by simp) (by simp)
    refine ⟨g, cp, W, run_append_nothing _ 82 82 ty 25 i0 Tryz.underlying82 hi (some ⟨g, 0, none⟩) k cp hkc _ hsrc, ?_, ⟨rfl, rfl, rfl, Nat.le_refl _, fun _ _ _ => rfl⟩, hg⟩
    rw [show lcells U 0 = [] from rfl, List.append_nil]
    exact own
  · obtain ⟨b, off, rfl, hb, hc⟩ := hr (by omega)
    obtain ⟨g', cap, w', hrun, r1, r2, r3, r4⟩ := run_append_lies (P := Tryz.prog) W 82 ty base 25 i0 _ 3 72 Tryz.underlying82 hi hz0 hz1 hz2 rfl (by decide) _ _ _ own ⟨b, off, none⟩ m c (lcells U m) (lcells_length U m) (by
      intro j v hj
      have hjn : j < m * 3 := by
        have := (List.getElem?_eq_some_iff.1 hj).1
        rwa [lcells_length] at this
      have e := lcells_at U m (j / 3) (j % 3) (by omega) (by omega)
      rw [show j / 3 * 3 + j % 3 = j by omega, hj] at e
      have hcell := (hc (j / 3) (by omega)).1 (j % 3) (by omega)
      rw [Addr.add_lit, show off + j = off + j / 3 * 3 + j % 3 by omega, hcell, e]) (by
      intro v hv
      obtain ⟨x, _, rfl⟩ := List.mem_map.1 hv
      rfl) (by omega) (by unfold maxLen; omega) (by omega) hbase _ rfl
    exact ⟨g', cap, w', hrun, r1, r2, r4⟩
theorem lrow_more {w : World} {B C n : Nat} {A : Option Addr} {u : Nat → Nat → Ls.Sl} {f : Nat → Nat → List Int} (h : Ls.LRow w B A n u f) (hB : B ≤ C) : Ls.LRow w C A n u f := fun hn => by
  obtain ⟨b, off, e, hlt, hc⟩ := h hn
  exact ⟨b, off, e, Nat.lt_of_lt_of_le hlt hB, fun i hi => ⟨(hc i hi).1, (hc i hi).2.more hB⟩⟩
structure LCatted (W : World) (base g : Nat) (g' cp' n : Nat) (cells : List Value) (w' : World) : Prop where
  own : w'.ownsRow base 25 3 (.slice (some ⟨g', 0, none⟩) n cp') n cells
  grown : W.grownBy w' (some g)
  lt : g' < w'.heap.size
theorem list_lcat {W : World} {ops : Array Oper} {rest : List Oper} {o : Oper} {a : Act} {Q : Exit → Act → World → Prop} (hgd : o.guard = none) (s x : Operand)
    (ho : o.op = .call { callee := .builtin .append, args := #[s, x], argTypes := #[82, 82] }) {base B k m c g cp : Nat} {A : Option Addr} {u U : Nat → Nat → Ls.Sl} {F : Nat → Nat → List Int}
    (hs : a.eval s = .slice (some ⟨g, 0, none⟩) k cp) (hx : a.eval x = .slice A m c) (own : W.ownsRow base 25 3 (.slice (some ⟨g, 0, none⟩) k cp) k (lcells u k)) (hr : Ls.LRow W B A m U F) (hbase : base ≤ W.heap.size) (hk : k + m ≤ 2000) {n : Nat} (hn : k + m = n)
    (hK : ∀ g' cp' w', LCatted W base g g' cp' n (lcells u k ++ lcells U m) w' → wpList Tryz.prog ops Q rest (a.put o.dst (.slice (some ⟨g', 0, none⟩) n cp')) w') : wpList Tryz.prog ops Q (o :: rest) a W := by
  subst hn
  refine wpList_plain hgd fun K hK' => ?_
  obtain ⟨g', cp', w', hrun, h2, h3, h4⟩ := run_lcat W base B k m c g cp A u U F o.type own hr hbase hk
  unfold Oper.wp execOp
  simp only [ho, resolve, invoke, builtin, Sem.run_bind, Sem.run_pure, Result.andThen_ok, List.map_toArray, List.map_cons, List.map_nil, hs, hx, hrun]
  exact hK' _ _ (hK g' cp' w' ⟨h2, h3, h4⟩)
/-- slices.Grow of nothing. -/
theorem grow_any (n : Nat) (w : World) (h0 : 0 < n) (h1 : n ≤ 2000) : Calls Tryz.prog 133 #[.slice none 0 0, .int .i64 n] w fun e w' =>
    ∃ cp, e = .returned (.slice (some ⟨w.heap.size, 0, none⟩) 0 cp) ∧ w'.ownsRow w.heap.size 25 3 (.slice (some ⟨w.heap.size, 0, none⟩) 0 cp) 0 [] ∧ Below w.heap.size w w' := by
  obtain ⟨i0, hi, hz0, hz1, hz2⟩ := info_parts info_l3
  refine (Any8.slices_Grow_grow Tryz.growL i0 _ hi hz0 (by omega) none 0 0 n [] w (Nat.le_refl _) (by omega) (by rw [hz2]; omega) (by omega) (by simp) (fun _ => rfl) (fun _ h => by cases h)).mono ?_
  rintro e w' ⟨rfl, rfl⟩
  have h3 := grownCap_ge w (0 + n) 0 25
  have h4 := grownCap_le_maxLen w (0 + n) 0 25 (by unfold maxLen; omega)
  refine ⟨_, rfl, ⟨rfl, .inr ⟨w.heap.size, _, _, rfl, Nat.le_refl _, World.alloc_heap_new _ _, Nat.zero_le _, h4, ?_, by simp⟩⟩, ((Below.refl w.heap.size w).drew.alloc (Nat.le_refl _) _)⟩
  have e3 : ∀ k, (Builtin.zeroCells (Value.agg #[.slice none 0 0, .slice none 0 0, .slice none 0 0]).cells k).size = k * 3 := fun k => size_zeroCells _ k
  rw [Array.size_append, Array.size_append, e3, e3]
  show 0 + (0 + n - 0) * 3 + (grownCap w (0 + n) 0 25 - (0 + n)) * 3 = grownCap w (0 + n) 0 25 * 3
  omega
def LOut (w : World) (U : Nat → Nat → Ls.Sl) (F : Nat → Nat → List Int) (n : Nat) (e : Ending) (w' : World) : Prop := ∃ A c, e = .returned (.slice A n c) ∧ Ls.LRow w' w'.heap.size A n U F ∧ Below w.heap.size w w'
section
variable (w : World) (bb g B m c0 c1 c2 : Nat) (A : Option Addr) (u : Nat → Ls.Sl) (f : Nat → List Int) (U : Nat → Nat → Ls.Sl) (F : Nat → Nat → List Int)
theorem concat_any (h0 : w.cell? ⟨bb, 0, none⟩ = some (.slice (some ⟨g, 0, none⟩) 1 c1)) (h1 : w.cell? ⟨bb, 1, none⟩ = some (.slice A m c2)) (hbb : bb < w.heap.size) (hr1 : Ls.LRow w B (some ⟨g, 0, none⟩) 1 (fun _ => u) (fun _ => f)) (hr : Ls.LRow w B A m U F) (hB : B ≤ w.heap.size) (hm : m ≤ 1000) :
    Calls Tryz.prog 101 #[.slice (some ⟨bb, 0, none⟩) 2 c0] w (LOut w (ahead u U) (ahead f F) (1 + m)) := by
  have H1 := Lib.hid hr1
  have H2 := Lib.hid hr
  have HGR := Lib.hid (fun W => by
    have := grow_any (1 + m) W (by omega) (by omega)
    rw [show ((1 + m : Nat) : Int) = 1 + (m : Int) by omega] at this
    exact this)
  have d1 : decide ((1 : Int) + m < 0) = false := by simp; omega
  have d2 : ¬ ((1 : Int) + m < 0) := by omega
  clear hr1 hr
  go_enter Tryz.func101, Tryz.ntmps101
  go_wp2
  refine wp_loop_rounds 3 ?_
  rw [rounds_succ]
  go_wp2
  rw [rounds_succ]
  go_wp2
  rw [rounds_succ]
  go_wp2_with fail
  refine (HGR.out w).mono ?_
  rintro e w1 ⟨cp, rfl, hown, hb1⟩
  have x0 := (hb1.cell (p := ⟨bb, 0, none⟩) hbb).trans h0
  have x1 := (hb1.cell (p := ⟨bb, 1, none⟩) hbb).trans h1
  have hs1 := hb1.size
  have C1 := Lib.hid h1
  have own1 : w1.ownsRow w.heap.size 25 3 (.slice (some ⟨w.heap.size, 0, none⟩) 0 cp) 0 (lcells (fun _ => Ls.noSl) 0) := hown
  have O1 := Lib.hid own1
  have B1 := Lib.hid hb1
  have R1 := Lib.hid (H1.out.below (hb1.mono hB))
  clear hown hb1 own1 d1 d2 h0 h1
  go_wp2
  refine wp_loop_rounds 3 ?_
  rw [rounds_succ]
  go_wp2_with (at_builtin; refine list_lcat rfl (.tmp 31) (.tmp 32) rfl rfl rfl O1.out R1.out hs1 (by omega) (n := 1) rfl ?_; intro g2 cp2 w2 hc2; have O2 := Lib.hid hc2.own; have hb2 := B1.out.grown hc2.grown hs1 (fun k hk => by cases hk; exact Nat.le_refl _); have z1 := (hb2.cell (p := ⟨bb, 1, none⟩) hbb).trans C1.out; have hs2 := hb2.size; have B2 := Lib.hid hb2; clear hc2 hb2)
  have own2 : w2.ownsRow w.heap.size 25 3 (.slice (some ⟨g2, 0, none⟩) 1 cp2) 1 (lcells (fun _ => u) 1) := O2.out
  have O3 := Lib.hid own2
  have R2 := Lib.hid (H2.out.below (B2.out.mono hB))
  clear own2 x0 x1 O2
  rw [rounds_succ]
  go_wp2_with (at_builtin; refine list_lcat rfl (.tmp 31) (.tmp 32) rfl rfl rfl O3.out R2.out hs2 (by omega) (n := 1 + m) rfl ?_; intro g3 cp3 w3 hc3; have C3 := Lib.hid hc3; clear hc3)
  rw [rounds_succ]
  go_wp2
  go_ret
  have hg2 := (O3.out.lt g2 rfl).1
  have hb3 := B2.out.grown C3.out.grown hs2 (fun k hk => by cases hk; exact hg2)
  have own := C3.out.own
  rw [← lcells_ahead] at own
  refine ⟨_, _, rfl, lrow_of own C3.out.lt fun i hi => ?_, hb3⟩
  match i, hi with
  | 0, _ =>
    obtain ⟨_, _, _, _, hc⟩ := H1.out (by omega)
    exact ((hc 0 (by omega)).2.below (hb3.mono hB)).more (by have := hb3.size; omega)
  | k + 1, hk =>
    obtain ⟨_, _, _, _, hc⟩ := H2.out (by omega)
    exact ((hc k (by omega)).2.below (hb3.mono hB)).more (by have := hb3.size; omega)
end
theorem told_any (s : Hs) (d : Hd_) (w : World) (A : Option Addr) (m c : Nat) (U : Nat → Nat → Ls.Sl) (F : Nat → Nat → List Int) (hp : Hp w w.heap.size s d) (hl : Ls.LRow w w.heap.size A m U F) (hm : m ≤ 1000) :
    Calls Tryz.prog 65 #[(.agg #[.slice s.w.a s.w.n s.w.c, .slice s.p.a s.p.n s.p.c, .slice (s.u 0).a (s.u 0).n (s.u 0).c, .slice (s.u 1).a (s.u 1).n (s.u 1).c, .slice (s.u 2).a (s.u 2).n (s.u 2).c, .slice s.c.a s.c.n s.c.c]), .slice A m c] w (LOut w (ahead s.u U) (ahead d.F F) (1 + m)) := by
  have HP := Lib.hid hp.free
  have HL := Lib.hid hl
  clear hp hl
  obtain ⟨w2, hw2⟩ : ∃ w2, w2 = (w.alloc (.cells #[.slice s.w.a s.w.n s.w.c, .slice s.p.a s.p.n s.p.c, .slice (s.u 0).a (s.u 0).n (s.u 0).c, .slice (s.u 1).a (s.u 1).n (s.u 1).c, .slice (s.u 2).a (s.u 2).n (s.u 2).c, .slice s.c.a s.c.n s.c.c] 28)).alloc (.cells #[.slice (s.u 0).a (s.u 0).n (s.u 0).c, .slice (s.u 1).a (s.u 1).n (s.u 1).c, .slice (s.u 2).a (s.u 2).n (s.u 2).c] 25) := ⟨_, rfl⟩
  have hb2 : Below w.heap.size w w2 := by rw [hw2]; exact ((Below.refl _ _).alloc (Nat.le_refl _) _).alloc (by simp) _
  have hs2 : w2.heap.size = w.heap.size + 1 + 1 := by rw [hw2]; simp
  have hr1 : Ls.LRow w2 w2.heap.size (some ⟨w.heap.size + 1, 0, none⟩) 1 (fun _ => s.u) (fun _ => d.F) := fun _ => ⟨_, 0, rfl, by omega, fun i hi => ⟨fun j hj => by
    obtain rfl : i = 0 := by omega
    match j, hj with
    | 0, _ => rw [hw2]; simp [go_sem]
    | 1, _ => rw [hw2]; simp [go_sem]
    | 2, _ => rw [hw2]; simp [go_sem], (HP.out.below hb2).more hb2.size⟩⟩
  have R1 := Lib.hid hr1
  have B2 := Lib.hid hb2
  have HW2 := Lib.hid hw2
  have HS2 := Lib.hid hs2
  clear hr1 hb2 hw2 hs2
  go_enter Tryz.func65, Tryz.ntmps65
  go_wp2_with fail
  rw [← HW2.out]
  have b3 := (Below.refl w2.heap.size w2).alloc (Nat.le_refl _) (.cells #[.slice (some ⟨w.heap.size + 1, 0, none⟩) 1 1, .slice A m c] 82)
  rw [show w.heap.size + 1 + 1 = w2.heap.size from HS2.out.symm]
  refine (concat_any _ w2.heap.size (w.heap.size + 1) w2.heap.size m 2 1 c A s.u d.F U F (by simp [go_sem]) (by simp [go_sem]) (by simp) (R1.out.below b3) (lrow_more (HL.out.below (B2.out.trans (b3.mono B2.out.size))) B2.out.size) (by simp) hm).mono ?_
  rintro e w4 ⟨A', c', rfl, hl4, hb4⟩
  have H4 := Lib.hid (And.intro hl4 (B2.out.trans ((b3.trans (hb4.mono b3.size)).mono B2.out.size)))
  clear hl4 hb4 b3
  go_wp2
  go_ret
  exact ⟨A', c', rfl, H4.out.1, H4.out.2⟩
end Go.Proofs.YtccjelpfmkbmiaaGreatDoor
end
section
namespace Go.Proofs.YtccjelpfmkbmiaaGreatDoor
open Go.RowKit
set_option maxRecDepth 100000

theorem JM_start (n₀ : Nat) (w w2 : World) (d : Hd_) (M₀ : Nat → Prop) (hb : Below n₀ w w2) (hn : n₀ ≤ w2.heap.size) (hM : ∀ k, M₀ k → k < w2.heap.size) :
    JM n₀ w2.heap.size w d M₀ [] (w2.alloc (.cells #[.slice none 0 0, .slice none 0 0, .slice none 0 0] 25)) := by
  have R0 : Ls.Res n₀ w w2 (fun _ => none) := ⟨hb, (fun _ _ h => by cases h), (fun _ _ _ _ h => by cases h)⟩
  have R1 := (R0.add hn (Below.refl _ w2) 0 (Ls.tOwn n₀ Ls.noSl (unus d [])) ⟨fun j _ => World.ownsRow_nil _ _ _ _, fun _ _ _ _ _ _ _ h => by cases h⟩ (by rintro b ⟨j, x, _, h, _⟩; cases h)).boxed hn Ls.noSl 1
  refine ⟨_, Ls.noSl, ⟨⟨R1, ?_, Ls.upd_same _ _ _, by simp; omega⟩, fun r t hr => ?_, fun r t hr b hb hM1 => ?_⟩⟩
  · rw [Ls.upd_other _ _ (by decide), Ls.upd_same]
  · by_cases e1 : r = 1
    · exact .inr e1
    · rw [Ls.upd_other _ _ e1] at hr
      by_cases e0 : r = 0
      · exact .inl e0
      · rw [Ls.upd_other _ _ e0] at hr
        cases hr
  · by_cases e1 : r = 1
    · subst e1
      rw [Ls.upd_same] at hr
      cases hr
      have := hM b hM1
      have e : b = w2.heap.size := hb
      omega
    · rw [Ls.upd_other _ _ e1] at hr
      by_cases e0 : r = 0
      · subst e0
        rw [Ls.upd_same] at hr
        cases hr
        obtain ⟨j, x, _, h, _⟩ := hb
        cases h
      · rw [Ls.upd_other _ _ e0] at hr
        cases hr
theorem asks_may (n₀ bu : Nat) (w : World) (d : Hd_) (n : Nat) : Asks 63 #[.pointer (some ⟨bu, 0, none⟩)] n₀ d (askM d) (Cl.allS d.f n) (JM n₀ bu w d) := by
  intro M pre a W hpre hw hJ hz hfit
  have hp := (page_of (hpre.subset (by simp) : a ∈ Cl.allS d.f n)).2.2
  have hl := hpre.length_le
  have hl2 := allS_len d.f n
  rw [List.length_append] at hl
  have hn : n₀ ≤ W.heap.size := by obtain ⟨R, V, h⟩ := hJ; exact h.lst.big
  by_cases h1 : wd d a % 2 = 1
  · have e : askM d a = fillsB (nOf (wd d a)) (pgAt d a) := if_pos h1
    rw [e]
    exact mayK_used n₀ bu w d M pre a _ _ W rfl h1 hJ hn hz
  · by_cases h2 : (pgAt d a).1 = 2
    · have e : askM d a = false := by rw [askM, if_neg h1, h2]; rfl
      rw [e]
      exact mayK_large n₀ bu w d M pre a _ _ W h1 h2 hn
    · have e : askM d a = true := by rw [askM, if_neg h1]; simp [h2]
      rw [e]
      rcases (show (pgAt d a).2 = 0 ∨ (pgAt d a).2 = 1 ∨ (pgAt d a).2 = 2 by omega) with h3 | h3 | h3
      · exact mayK_free0 n₀ bu w d M pre a _ _ W rfl rfl h1 h2 h3 hJ hfit (by omega)
      · exact mayK_free1 n₀ bu w d M pre a _ _ W rfl rfl h1 h2 h3 hJ hfit (by omega)
      · exact mayK_free2 n₀ bu w d M pre a _ _ W rfl rfl h1 h2 h3 hJ hfit (by omega)
theorem mayH_no {s : Hs} {d : Hd_} {m : Nat} {F : Nat → Nat → List Int} (h : firstB s d = false) : mayH s d m F = false := by simp [mayH, h]
section
variable (s : Hs) (d : Hd_) (A : Option Addr) (m c : Nat) (U : Nat → Nat → Ls.Sl) (F : Nat → Nat → List Int) (w : World)
theorem pmay_first (hp : Hp w w.heap.size s d) (hwn : s.w.n ≤ 4000) (hpn : s.p.n ≤ 1000) (hcn : s.c.n ≤ 100000) (hf : firstB s d = false) :
    Calls Tryz.prog 24 #[(.agg #[.slice s.w.a s.w.n s.w.c, .slice s.p.a s.p.n s.p.c, .slice (s.u 0).a (s.u 0).n (s.u 0).c, .slice (s.u 1).a (s.u 1).n (s.u 1).c, .slice (s.u 2).a (s.u 2).n (s.u 2).c, .slice s.c.a s.c.n s.c.c]), .slice A m c] w fun e w' => e = .returned (.bool false) ∧ Below w.heap.size w w' := by
  have HP := Lib.hid hp
  have HF := Lib.hid hf
  clear hp hf
  go_enter Tryz.func24, Tryz.ntmps24
  go_wp2_with fail
  have hb0 := (Below.refl w.heap.size w).alloc (Nat.le_refl _) (.cells #[.slice s.w.a s.w.n s.w.c, .slice s.p.a s.p.n s.p.c, .slice (s.u 0).a (s.u 0).n (s.u 0).c, .slice (s.u 1).a (s.u 1).n (s.u 1).c, .slice (s.u 2).a (s.u 2).n (s.u 2).c, .slice s.c.a s.c.n s.c.c] 28)
  refine (sized_any s d _ (HP.out.next hb0) hwn hpn hcn).mono ?_
  rw [HF.out]
  rintro e w1 ⟨rfl, hb1⟩
  have HB := Lib.hid (hb0.trans (hb1.mono hb0.size))
  clear hb0 hb1
  go_wp2
  go_ret
  exact ⟨rfl, HB.out⟩
set_option maxHeartbeats 1000000 in
theorem pmay_rest (R : Bool) (hp : Hp w w.heap.size s d) (hl : Ls.LRow w w.heap.size A m U F) (hm : m ≤ 1000) (hz : Cl.Sz w) (hwn : s.w.n ≤ 4000) (hpn : s.p.n ≤ 1000) (hcn : s.c.n ≤ 100000) (hf : firstB s d = true) (hlen : (Ls.allOf (ahead d.F F) (1 + m)).length ≤ 2000000)
    (hR : R = ((Cl.allS d.f s.p.n).all (holdsAt d (askM d)) && (amongB (1 + m) (ahead d.F F) (unus d (Cl.allS d.f s.p.n)) && decide (Ls.allOf (ahead d.F F) (1 + m)).Nodup))) :
    Calls Tryz.prog 24 #[(.agg #[.slice s.w.a s.w.n s.w.c, .slice s.p.a s.p.n s.p.c, .slice (s.u 0).a (s.u 0).n (s.u 0).c, .slice (s.u 1).a (s.u 1).n (s.u 1).c, .slice (s.u 2).a (s.u 2).n (s.u 2).c, .slice s.c.a s.c.n s.c.c]), .slice A m c] w fun e w' => e = .returned (.bool R) ∧ Below w.heap.size w w' := by
  have HP := Lib.hid hp
  have HF := Lib.hid hf
  have HL := Lib.hid hl
  have HZ := Lib.hid hz
  have HN := Lib.hid hlen
  have HR := Lib.hid hR
  have hz0 := hz.pos
  clear hp hf hl hz hlen hR
  go_enter Tryz.func24, Tryz.ntmps24
  go_wp2_with fail
  have hb0 := (Below.refl w.heap.size w).alloc (Nat.le_refl _) (.cells #[.slice s.w.a s.w.n s.w.c, .slice s.p.a s.p.n s.p.c, .slice (s.u 0).a (s.u 0).n (s.u 0).c, .slice (s.u 1).a (s.u 1).n (s.u 1).c, .slice (s.u 2).a (s.u 2).n (s.u 2).c, .slice s.c.a s.c.n s.c.c] 28)
  refine (sized_any s d _ (HP.out.next hb0) hwn hpn hcn).mono ?_
  rw [HF.out]
  rintro e w1 ⟨rfl, hb1⟩
  have bx1 := (HBox.new w s 28).next hb1
  have B1 := Lib.hid (hb0.trans (hb1.mono hb0.size))
  have X1 := Lib.hid (bx1.next ((Below.refl w1.heap.size w1).alloc (Nat.le_refl _) (.cells #[.slice none 0 0, .slice none 0 0, .slice none 0 0] 25)))
  have q0 := X1.out.c0
  have q1 := X1.out.c1
  have q2 := X1.out.c2
  have q3 := X1.out.c3
  have q4 := X1.out.c4
  have q5 := X1.out.c5
  have ql := X1.out.lt
  have hs1 := bx1.lt
  clear hb0 hb1 bx1
  go_wp2_with fail
  have bu := B1.out.alloc (by omega) (.cells #[.slice none 0 0, .slice none 0 0, .slice none 0 0] 25)
  refine (every_any s d _ w.heap.size (fun k => k = w.heap.size) _ _ (askM d) (JM w.heap.size w1.heap.size w d) (HP.out.below bu) (by simp; omega) hz0 (HZ.out.over bu hz0) HF.out (enters_of Tryz.func63 (by kernel_rfl) rfl) (bides_JM _ _ _ _)
    (JM_start w.heap.size w w1 d _ B1.out (by omega) (by rintro k rfl; omega)) (by rintro k rfl; simp; omega) (asks_may _ _ _ _ _)).mono ?_
  rintro e w4 ⟨rfl, hk4, hj4⟩
  have BU := Lib.hid (bu.trans hk4.1)
  have X4 := Lib.hid (X1.out.same (hk4.2 _ rfl X1.out.lt) hk4.1.size)
  have HJ := Lib.hid hj4
  clear hk4 hj4 bu q0 q1 q2 q3 q4 q5 ql
  have q0 := X4.out.c0
  have q1 := X4.out.c1
  have q2 := X4.out.c2
  have q3 := X4.out.c3
  have q4 := X4.out.c4
  have q5 := X4.out.c5
  have ql := X4.out.lt
  generalize (Cl.allS d.f s.p.n).all (holdsAt d (askM d)) = b1 at HR HJ ⊢
  go_wp2_with fail
  refine (told_any s d w4 A m c U F ((HP.out.below BU.out).more BU.out.size) (lrow_more (HL.out.below BU.out) BU.out.size) hm).mono ?_
  rintro e w5 ⟨A5, c5, rfl, hl5, hb5⟩
  have L5 := Lib.hid hl5
  have B5 := Lib.hid (BU.out.trans (hb5.mono BU.out.size))
  have B45 := Lib.hid hb5
  clear hl5 hb5 q0 q1 q2 q3 q4 q5 ql
  cases b1
  · have hR0 : R = false := by rw [HR.out]; rfl
    subst hR0
    go_wp2
    go_ret
    exact ⟨rfl, B5.out⟩
  obtain ⟨M, R', V, hG⟩ := HJ.out rfl
  have bx := hG.lst.boxed.next B45.out
  have c0 := bx.cell 0 (by decide)
  have c1 := bx.cell 1 (by decide)
  have c2 := bx.cell 2 (by decide)
  have cl := bx.lt
  have HV := Lib.hid ((hG.lst.owns.l3.below B45.out).more B45.out.size)
  clear hG bx
  go_wp2_with fail
  refine (among_any w5 w5.heap.size (1 + m) c5 A5 _ _ V _ L5.out HV.out (Nat.le_refl _) (fun j _ => unus_rise d _ j) (by omega) (fun j _ => Nat.le_trans (unus_len d _ j) (by have := allS_len d.f s.p.n; omega)) (fun k hk j hj => by have := Ls.part_len (ahead d.F F) hk hj; have := HN.out; omega)).mono ?_
  rintro e w6 ⟨rfl, hb6⟩
  have L6 := Lib.hid (lrow_more (L5.out.below hb6) hb6.size)
  have B6 := Lib.hid (B5.out.trans (hb6.mono B5.out.size))
  clear hb6 c0 c1 c2 cl
  generalize amongB (1 + m) (ahead d.F F) (unus d (Cl.allS d.f s.p.n)) = b2 at HR ⊢
  cases b2
  · have hR0 : R = false := by rw [HR.out]; rfl
    subst hR0
    go_wp2
    go_ret
    exact ⟨rfl, B6.out⟩
  have hR1 : R = decide (Ls.allOf (ahead d.F F) (1 + m)).Nodup := by rw [HR.out]; rfl
  have HR1 := Lib.hid hR1
  clear hR1
  go_wp2_with fail
  refine (Ls.apart_any w6.heap.size A5 (1 + m) c5 _ _ w6 L6.out (Nat.le_refl _) (by omega) HN.out).mono ?_
  rw [← HR1.out]
  rintro e w7 ⟨rfl, hb7⟩
  have B7 := Lib.hid (B6.out.trans (hb7.mono B6.out.size))
  clear hb7
  go_wp2
  go_ret
  exact ⟨rfl, B7.out⟩
theorem pmay_any (hp : Hp w w.heap.size s d) (hl : Ls.LRow w w.heap.size A m U F) (hm : m ≤ 1000) (hz : Cl.Sz w) (hwn : s.w.n ≤ 4000) (hpn : s.p.n ≤ 1000) (hcn : s.c.n ≤ 100000) (hlen : (Ls.allOf (ahead d.F F) (1 + m)).length ≤ 2000000) :
    Calls Tryz.prog 24 #[(.agg #[.slice s.w.a s.w.n s.w.c, .slice s.p.a s.p.n s.p.c, .slice (s.u 0).a (s.u 0).n (s.u 0).c, .slice (s.u 1).a (s.u 1).n (s.u 1).c, .slice (s.u 2).a (s.u 2).n (s.u 2).c, .slice s.c.a s.c.n s.c.c]), .slice A m c] w fun e w' => e = .returned (.bool (mayH s d m F)) ∧ Below w.heap.size w w' := by
  cases hf : firstB s d
  · rw [mayH_no hf]
    exact pmay_first s d A m c w hp hwn hpn hcn hf
  · refine pmay_rest s d A m c U F w _ hp hl hm hz hwn hpn hcn hf hlen ?_
    rw [all_holds, mayH, hf, Bool.true_and]
    cases ha : (Cl.allS d.f s.p.n).all (cellAt d)
    · rfl
    · rw [among_free ha]
end
end Go.Proofs.YtccjelpfmkbmiaaGreatDoor
end
section
namespace Go.Proofs.YtccjelpfmkbmiaaGreatDoor
open Go.RowKit
set_option maxRecDepth 100000

def usedF (d : Hd_) (pre : List Int) : List Int := pre.filter fun a => decide (wd d a % 2 = 1)
structure UGath (n₀ bu : Nat) (xs : List Int) (M : Nat → Prop) (W : World) (s : Ls.Sl) : Prop where
  box : Boxed W bu 22 (.slice s.a s.n s.c)
  free : ¬ M bu
  low : n₀ ≤ bu
  row : W.ownsRow n₀ 3 1 (.slice s.a s.n s.c) s.n (xs.map (Value.int .i64))
  off : ∀ g, (Value.slice s.a s.n s.c).ownBlock = some g → ¬ M g
def JU (n₀ bu : Nat) (d : Hd_) (M : Nat → Prop) (pre : List Int) (W : World) : Prop := ∃ s, UGath n₀ bu (usedF d pre) M W s
theorem UGath.bide {n₀ bu : Nat} {xs : List Int} {M M' : Nat → Prop} {W W' : World} {s : Ls.Sl} (h : UGath n₀ bu xs M W s) (hs : ∀ k, k < W.heap.size → ¬ M k → W'.heap[k]? = W.heap[k]?) (hm : ∀ k, M' k → M k ∨ (W.heap.size ≤ k ∧ k < W'.heap.size)) : UGath n₀ bu xs M' W' s := by
  have no : ∀ k, k < W.heap.size → ¬ M k → ¬ M' k := fun k hk hn h => by
    rcases hm k h with h | h
    · exact hn h
    · omega
  exact ⟨(hs _ h.box.lt h.free).trans h.box, no _ h.box.lt h.free, h.low, Ls.World.ownsRow.same h.row (fun g hg hlt => hs g hlt (h.off g hg)), fun g hg => no g (h.row.lt g hg).2 (h.off g hg)⟩
theorem bides_JU (n₀ bu : Nat) (d : Hd_) : Cl.Bides n₀ (JU n₀ bu d) := by
  rintro M M' pre W W' ⟨s, h⟩ hb hs hm
  exact ⟨s, h.bide hs hm⟩
theorem ugath_cat {n₀ bu : Nat} {xs ys : List Int} {M : Nat → Prop} {W W1 w3 : World} {s s' : Ls.Sl} {o : Obj} (h : UGath n₀ bu xs M W1 s) (hk : Cl.Kept n₀ M W W1) (hn : n₀ ≤ W1.heap.size) (hfit : ∀ k, M k → k < W.heap.size)
    (hc : Ls.Catted (W1.alloc o) n₀ (.slice s.a s.n s.c) s' ys w3) : UGath n₀ bu ys M (w3.setCell ⟨bu, 0, none⟩ (.slice s'.a s'.n s'.c)) s' ∧ Cl.Kept n₀ M W (w3.setCell ⟨bu, 0, none⟩ (.slice s'.a s'.n s'.c)) := by
  have hne := (h.box.alloc o).not_row (by decide) (h.row.alloc o)
  have hbx := (h.box.alloc o).kept hc.grown hne
  have hn2 := hbx.not_row (by decide) hc.own
  have hsz := hc.grown.size
  have hs1 := hk.1.size
  rw [World.size_alloc] at hsz
  have lies : ∀ g, (Value.slice s'.a s'.n s'.c).ownBlock = some g → ¬ M g := fun g hg hM => by
    rw [Ls.ownBlock_slice] at hg
    cases hx : s'.a with
    | none => rw [hx] at hg; cases hg
    | some x =>
      rw [hx] at hg
      simp at hg
      subst hg
      rcases hc.lies x hx with e | e
      · exact h.off _ e hM
      · have := hfit _ hM
        rw [World.size_alloc] at e
        omega
  refine ⟨⟨hbx.set _, h.free, h.low, ?_, lies⟩, ?_, fun k hM hkl => ?_⟩
  · exact hc.own.kept (grownBy_setCell' w3 bu _) (.inr hn2.symm)
  · refine hk.1.trans ((((Below.refl _ _).alloc hn o).grown hc.grown (by simp; omega) (fun k e => (h.row.lt k e).1)).setCell (p := ⟨bu, 0, none⟩) h.low _)
  · have k1 : ¬ k = bu := fun e => h.free (e ▸ hM)
    refine (Below.heap_setCell _ _ _ _ k1).trans ((hc.grown.block k (by simp; omega) (fun e => h.off k e.symm hM)).trans ((Below.heap_alloc _ _ _ (by omega)).trans (hk.2 k hM hkl)))
def KUOut (n₀ bu : Nat) (d : Hd_) (M : Nat → Prop) (pre : List Int) (W : World) (e : Ending) (W' : World) : Prop := e = .returned (.bool true) ∧ Cl.Kept n₀ M W W' ∧ (true = true → JU n₀ bu d M pre W')
section
variable (n₀ bu : Nat) (d : Hd_) (M : Nat → Prop) (pre : List Int) (a x : Int) (p : Int × Int) (W : World)
theorem usedK_no (hx : x = wd d a) (h1 : ¬ x % 2 = 1) (hJ : JU n₀ bu d M pre W) (hn : n₀ ≤ W.heap.size) :
    Calls Tryz.prog 82 #[cellV a x p, .pointer (some ⟨bu, 0, none⟩)] W (KUOut n₀ bu d M (pre ++ [a]) W) := by
  have hu : decide (x % 2 = 1) = false := decide_eq_false h1
  have HJ := Lib.hid hJ
  have HX := Lib.hid (And.intro hx h1)
  unfold cellV
  rw [hu]
  clear hJ hx h1 hu
  go_enter Tryz.func82, Tryz.ntmps82
  go_wp2
  go_ret
  have hb := (Below.refl W.heap.size W).alloc (Nat.le_refl _) (.cells #[.int .i64 a, .int .i64 p.1, .int .i64 p.2, .bool false, .bool (decide (x / 2 % 2 = 1)), .bool (decide (x / 4 % 2 = 1)), .int .i64 (nOf x), .int .i64 (x / 1024 % 4194304), .int .i64 (x / 4294967296)] 85)
  have e := bides_JU n₀ bu d M M pre W _ HJ.out (hb.mono hn) (fun k hk _ => hb.block k hk) (fun _ h => .inl h)
  refine ⟨rfl, ⟨hb.mono hn, fun k hM hk => hb.block k hk⟩, fun _ => ?_⟩
  have eu : usedF d (pre ++ [a]) = usedF d pre := by simp [usedF, List.filter_append, show ¬ wd d a % 2 = 1 by rw [← HX.out.1]; exact HX.out.2]
  unfold JU
  rw [eu]
  exact e
set_option maxHeartbeats 1000000 in
theorem usedK_yes (hx : x = wd d a) (h1 : x % 2 = 1) (hJ : JU n₀ bu d M pre W) (hn : n₀ ≤ W.heap.size) (hfit : ∀ k, M k → k < W.heap.size) (hlen : pre.length ≤ 100000) :
    Calls Tryz.prog 82 #[cellV a x p, .pointer (some ⟨bu, 0, none⟩)] W (KUOut n₀ bu d M (pre ++ [a]) W) := by
  obtain ⟨s, hs⟩ := hJ
  have hu : decide (x % 2 = 1) = true := decide_eq_true h1
  have hb := (Below.refl W.heap.size W).alloc (Nat.le_refl _) (.cells #[.int .i64 a, .int .i64 p.1, .int .i64 p.2, .bool true, .bool (decide (x / 2 % 2 = 1)), .bool (decide (x / 4 % 2 = 1)), .int .i64 (nOf x), .int .i64 (x / 1024 % 4194304), .int .i64 (x / 4294967296)] 85)
  have hg := hs.bide (M' := M) (W' := W.alloc (.cells #[.int .i64 a, .int .i64 p.1, .int .i64 p.2, .bool true, .bool (decide (x / 2 % 2 = 1)), .bool (decide (x / 4 % 2 = 1)), .int .i64 (nOf x), .int .i64 (x / 1024 % 4194304), .int .i64 (x / 4294967296)] 85)) (fun k hk _ => hb.block k hk) (fun _ h => .inl h)
  have HG := Lib.hid hg
  have HK := Lib.hid (show Cl.Kept n₀ M W _ from ⟨hb.mono hn, fun k _ hk => hb.block k hk⟩)
  have eu : usedF d (pre ++ [a]) = usedF d pre ++ [a] := by simp [usedF, List.filter_append, show wd d a % 2 = 1 by rw [← hx]; exact h1]
  have EU := Lib.hid eu
  have hl : s.n ≤ 100000 := by
    have h2 := hs.row.1
    have h3 : (usedF d pre).length ≤ pre.length := List.length_filter_le _ _
    simp at h2
    omega
  have HLIT : Hid (Row ((W.alloc (.cells #[.int .i64 a, .int .i64 p.1, .int .i64 p.2, .bool true, .bool (decide (x / 2 % 2 = 1)), .bool (decide (x / 4 % 2 = 1)), .int .i64 (nOf x), .int .i64 (x / 1024 % 4194304), .int .i64 (x / 4294967296)] 85)).alloc (.cells #[.int .i64 a] 3)) (W.heap.size + 1 + 1) (some ⟨W.heap.size + 1, 0, none⟩) 1 [a]) := Lib.hid (by
    have := Ls.row_lit1 (W.alloc (.cells #[.int .i64 a, .int .i64 p.1, .int .i64 p.2, .bool true, .bool (decide (x / 2 % 2 = 1)), .bool (decide (x / 4 % 2 = 1)), .int .i64 (nOf x), .int .i64 (x / 1024 % 4194304), .int .i64 (x / 4294967296)] 85)) a
    rwa [World.size_alloc] at this)
  have HF := Lib.hid hfit
  have c0 := hs.box.cell
  have cf := hs.box.frozen
  have cl := hs.box.lt
  unfold cellV
  rw [hu]
  clear hs hx h1 hu hb hg eu hfit hlen
  go_enter Tryz.func82, Tryz.ntmps82
  go_wp2_with (at_builtin; refine Ls.list_cat rfl _ _ rfl rfl rfl (HG.out.row.alloc _) HLIT.out (by simp; omega) (by omega) ?_)
  intro p' cp' w3 hcat
  have hE := ugath_cat HG.out HK.out (by simp; omega) HF.out hcat
  have hne := (HG.out.box.alloc (.cells #[.int .i64 a] 3)).not_row (by decide) (HG.out.row.alloc _)
  have hbx := (HG.out.box.alloc (.cells #[.int .i64 a] 3)).kept hcat.grown hne
  have y0 := hbx.cell
  have yf := hbx.frozen
  have yl := hbx.lt
  have HE := Lib.hid hE
  clear hcat hE hne hbx c0 cf cl
  go_wp2
  go_ret
  exact ⟨rfl, HE.out.2, fun _ => ⟨_, by rw [EU.out]; exact HE.out.1⟩⟩
end
end Go.Proofs.YtccjelpfmkbmiaaGreatDoor
end
section
namespace Go.Proofs.YtccjelpfmkbmiaaGreatDoor
open Go.RowKit
set_option maxRecDepth 100000

/-- What the calls ask of a heap's size, and of its words. -/
structure Fine (s : Hs) (d : Hd_) : Prop where
  wn : s.w.n ≤ 4000
  pn : s.p.n ≤ 200
  cn : s.c.n ≤ 100000
  hv : ∀ i, -9223372036854775808 ≤ d.ws.getD i 0 ∧ d.ws.getD i 0 ≤ 9223372036854775807
  len : (Ls.upTo d.F 3).length ≤ 2000000
theorem pmay0_any (s : Hs) (d : Hd_) (w : World) (hp : Hp w w.heap.size s d) (hz : Cl.Sz w) (hf : Fine s d) :
    Calls Tryz.prog 24 #[(.agg #[.slice s.w.a s.w.n s.w.c, .slice s.p.a s.p.n s.p.c, .slice (s.u 0).a (s.u 0).n (s.u 0).c, .slice (s.u 1).a (s.u 1).n (s.u 1).c, .slice (s.u 2).a (s.u 2).n (s.u 2).c, .slice s.c.a s.c.n s.c.c]), .slice none 0 0] w fun e w' => e = .returned (.bool (mayB0 s d)) ∧ Below w.heap.size w w' := by
  obtain ⟨U, hU⟩ := lrow_none w w.heap.size
  refine pmay_any s d none 0 0 U noCaches w hp hU (by omega) hz hf.wn (by have := hf.pn; omega) hf.cn ?_
  rw [show Ls.allOf (ahead d.F noCaches) (1 + 0) = Ls.upTo d.F 3 by simp [Ls.allOf, ahead]]
  exact hf.len
theorem mayH_all {s : Hs} {d : Hd_} {m : Nat} {F : Nat → Nat → List Int} (h : mayH s d m F = true) : firstB s d = true ∧ (Cl.allS d.f s.p.n).all (cellAt d) = true ∧ freeAll d s.p.n (1 + m) (ahead d.F F) = true ∧ (Ls.allOf (ahead d.F F) (1 + m)).Nodup := by
  unfold mayH at h
  simp only [Bool.and_eq_true, decide_eq_true_eq] at h
  exact ⟨h.1, h.2.1, h.2.2.1, h.2.2.2⟩
def usedL (s : Hs) (d : Hd_) : List Int := if mayB0 s d = true then usedF d (Cl.allS d.f s.p.n) else []
theorem asks_used (n₀ bu : Nat) (d : Hd_) (n : Nat) (hbu : n₀ ≤ bu) : Asks 82 #[.pointer (some ⟨bu, 0, none⟩)] n₀ d (fun _ => true) (Cl.allS d.f n) (JU n₀ bu d) := by
  intro M pre a W hpre hw hJ hz hfit
  have hl := hpre.length_le
  have hl2 := allS_len d.f n
  rw [List.length_append] at hl
  have hn : n₀ ≤ W.heap.size := by obtain ⟨s, h⟩ := hJ; have := h.box.lt; omega
  by_cases h1 : wd d a % 2 = 1
  · exact usedK_yes n₀ bu d M pre a _ _ W rfl h1 hJ hn hfit (by omega)
  · exact usedK_no n₀ bu d M pre a _ _ W rfl h1 hJ hn
theorem all_words {d : Hd_} {n : Nat} (h : (Cl.allS d.f n).all (cellAt d) = true) : (Cl.allS d.f n).all (holdsAt d fun _ => true) = true := List.all_eq_true.2 fun a ha => by
  have := (word_used (List.all_eq_true.1 h a ha)).1
  simp [holdsAt, this]
section
variable (s : Hs) (d : Hd_) (w : World)
theorem pused_any (hp : Hp w w.heap.size s d) (hz : Cl.Sz w) (hf : Fine s d) : Calls Tryz.prog 37 #[(.agg #[.slice s.w.a s.w.n s.w.c, .slice s.p.a s.p.n s.p.c, .slice (s.u 0).a (s.u 0).n (s.u 0).c, .slice (s.u 1).a (s.u 1).n (s.u 1).c, .slice (s.u 2).a (s.u 2).n (s.u 2).c, .slice s.c.a s.c.n s.c.c])] w (Ls.AllOut w (usedL s d)) := by
  have HP := Lib.hid hp
  have HZ := Lib.hid hz
  have HF := Lib.hid hf
  have hz0 := hz.pos
  have hb0 := (Below.refl w.heap.size w).alloc (Nat.le_refl _) (.cells #[.slice s.w.a s.w.n s.w.c, .slice s.p.a s.p.n s.p.c, .slice (s.u 0).a (s.u 0).n (s.u 0).c, .slice (s.u 1).a (s.u 1).n (s.u 1).c, .slice (s.u 2).a (s.u 2).n (s.u 2).c, .slice s.c.a s.c.n s.c.c] 28)
  cases hm : mayB0 s d
  · have HM := Lib.hid hm
    rw [show usedL s d = [] by simp [usedL, hm]]
    clear hp hz hf hm
    go_enter Tryz.func37, Tryz.ntmps37
    go_wp2_with fail
    refine (pmay0_any s d _ (HP.out.next hb0) (HZ.out.over hb0 hz0) HF.out).mono ?_
    rw [HM.out]
    rintro e w1 ⟨rfl, hb1⟩
    have HB := Lib.hid (hb0.trans (hb1.mono hb0.size))
    clear hb0 hb1
    go_wp2
    go_ret
    exact ⟨⟨none, 0, 0⟩, rfl, World.ownsRow_nil _ _ _ _, HB.out⟩
  · have HM := Lib.hid hm
    have hall := mayH_all hm
    have HA := Lib.hid hall
    rw [show usedL s d = usedF d (Cl.allS d.f s.p.n) by simp [usedL, hm]]
    clear hp hz hf hm hall
    go_enter Tryz.func37, Tryz.ntmps37
    go_wp2_with fail
    refine (pmay0_any s d _ (HP.out.next hb0) (HZ.out.over hb0 hz0) HF.out).mono ?_
    rw [HM.out]
    rintro e w1 ⟨rfl, hb1⟩
    have bx1 := (HBox.new w s 28).next hb1
    have B1 := Lib.hid (hb0.trans (hb1.mono hb0.size))
    have hs1 := bx1.lt
    have X1 := Lib.hid (bx1.next ((Below.refl w1.heap.size w1).alloc (Nat.le_refl _) (.cells #[.slice none 0 0] 22)))
    have q0 := X1.out.c0
    have q1 := X1.out.c1
    have q2 := X1.out.c2
    have q3 := X1.out.c3
    have q4 := X1.out.c4
    have q5 := X1.out.c5
    have ql := X1.out.lt
    clear hb0 hb1 bx1
    go_wp2_with fail
    have bu := B1.out.alloc (by omega) (.cells #[.slice none 0 0] 22)
    refine (every_any s d _ w.heap.size (fun _ => False) _ _ (fun _ => true) (JU w.heap.size w1.heap.size d) (HP.out.below bu) (by simp; omega) hz0 (HZ.out.over bu hz0) HA.out.1 (enters_of Tryz.func82 (by kernel_rfl) rfl) (bides_JU _ _ _)
      ⟨⟨none, 0, 0⟩, Boxed.new _ _ _, fun h => h, by omega, World.ownsRow_nil _ _ _ _, fun _ h => by cases h⟩ (fun _ h => h.elim) (asks_used _ _ _ _ (by omega))).mono ?_
    rw [all_words HA.out.2.1]
    rintro e w4 ⟨rfl, hk4, hj4⟩
    obtain ⟨M, s4, h4⟩ := hj4 rfl
    have c0 := h4.box.cell
    have cl := h4.box.lt
    have H4 := Lib.hid h4
    have B4 := Lib.hid (bu.trans hk4.1)
    clear h4 hk4 hj4 bu q0 q1 q2 q3 q4 q5 ql
    go_wp2
    go_ret
    exact ⟨s4, rfl, H4.out.row, B4.out⟩
end
end Go.Proofs.YtccjelpfmkbmiaaGreatDoor
end
section
namespace Go.Proofs.YtccjelpfmkbmiaaGreatDoor
open Go.RowKit
set_option maxRecDepth 100000

section
variable (s : Hs) (d : Hd_) (a : Int) (w : World)
theorem phead_bad (hp : Hp w w.heap.size s d) (hz : Cl.Sz w) (hf : Fine s d) (hm : mayB0 s d = false) :
    Calls Tryz.prog 26 #[(.agg #[.slice s.w.a s.w.n s.w.c, .slice s.p.a s.p.n s.p.c, .slice (s.u 0).a (s.u 0).n (s.u 0).c, .slice (s.u 1).a (s.u 1).n (s.u 1).c, .slice (s.u 2).a (s.u 2).n (s.u 2).c, .slice s.c.a s.c.n s.c.c]), .int .i64 a] w (HeadOut w noHead 1) := by
  have HP := Lib.hid hp
  have HZ := Lib.hid hz
  have hz0 := hz.pos
  have HM := Lib.hid hm
  have HF := Lib.hid hf
  clear hp hz hm hf
  go_enter Tryz.func26, Tryz.ntmps26
  go_wp2_with fail
  have b0 := (Below.refl w.heap.size w).alloc (Nat.le_refl _) (.cells #[.slice s.w.a s.w.n s.w.c, .slice s.p.a s.p.n s.p.c, .slice (s.u 0).a (s.u 0).n (s.u 0).c, .slice (s.u 1).a (s.u 1).n (s.u 1).c, .slice (s.u 2).a (s.u 2).n (s.u 2).c, .slice s.c.a s.c.n s.c.c] 28)
  have b1 := b0.alloc (by simp) (.cells #[.bool false, .bool false, .bool false, .int .i64 0, .int .i64 0, .int .i64 0] 53)
  refine (pmay0_any s d _ ((HP.out.below b1).more b1.size) (HZ.out.over b1 hz0) HF.out).mono ?_
  rw [HM.out]
  rintro e w1 ⟨rfl, hb1⟩
  have x0 := XBox.new (w.alloc (.cells #[.slice s.w.a s.w.n s.w.c, .slice s.p.a s.p.n s.p.c, .slice (s.u 0).a (s.u 0).n (s.u 0).c, .slice (s.u 1).a (s.u 1).n (s.u 1).c, .slice (s.u 2).a (s.u 2).n (s.u 2).c, .slice s.c.a s.c.n s.c.c] 28)) 53
  rw [World.size_alloc] at x0
  have X := x0.next hb1
  have BW := Lib.hid (b1.trans (hb1.mono b1.size))
  have y0 := X.cell 0 (by decide)
  have y1 := X.cell 1 (by decide)
  have y2 := X.cell 2 (by decide)
  have y3 := X.cell 3 (by decide)
  have y4 := X.cell 4 (by decide)
  have y5 := X.cell 5 (by decide)
  simp only [Nat.reduceLT, if_true, if_false] at y0 y1 y2 y3 y4 y5
  have z0 := X.free 0
  have z1 := X.free 1
  have z2 := X.free 2
  have z3 := X.free 3
  have z4 := X.free 4
  have z5 := X.free 5
  have zl := X.lt
  clear x0 X hb1 b0 b1
  go_wp2
  refine bodyPost_ret (v := .tuple #[noHead, .int .i64 1]) ?_ rfl ?_
  rotate_left
  · exact ⟨rfl, below_put6 BW.out (b := w.heap.size + 1) (by omega) _ _ _ _ _ _⟩
  simp [results, Tryz.results26, go_sem, noHead, y0, y1, y2, y3, y4, y5]
theorem phead_none (hp : Hp w w.heap.size s d) (hz : Cl.Sz w) (hf : Fine s d) (hm : mayB0 s d = true) (hb : Cl.bg d.f s.p.n a = 0) :
    Calls Tryz.prog 26 #[(.agg #[.slice s.w.a s.w.n s.w.c, .slice s.p.a s.p.n s.p.c, .slice (s.u 0).a (s.u 0).n (s.u 0).c, .slice (s.u 1).a (s.u 1).n (s.u 1).c, .slice (s.u 2).a (s.u 2).n (s.u 2).c, .slice s.c.a s.c.n s.c.c]), .int .i64 a] w (HeadOut w noHead 3) := by
  have HP := Lib.hid hp
  have HZ := Lib.hid hz
  have hz0 := hz.pos
  have HM := Lib.hid hm
  have HF := Lib.hid hf
  have HB := Lib.hid hb
  clear hp hz hm hf hb
  go_enter Tryz.func26, Tryz.ntmps26
  go_wp2_with fail
  have b0 := (Below.refl w.heap.size w).alloc (Nat.le_refl _) (.cells #[.slice s.w.a s.w.n s.w.c, .slice s.p.a s.p.n s.p.c, .slice (s.u 0).a (s.u 0).n (s.u 0).c, .slice (s.u 1).a (s.u 1).n (s.u 1).c, .slice (s.u 2).a (s.u 2).n (s.u 2).c, .slice s.c.a s.c.n s.c.c] 28)
  have b1 := b0.alloc (by simp) (.cells #[.bool false, .bool false, .bool false, .int .i64 0, .int .i64 0, .int .i64 0] 53)
  have x0 := XBox.new (w.alloc (.cells #[.slice s.w.a s.w.n s.w.c, .slice s.p.a s.p.n s.p.c, .slice (s.u 0).a (s.u 0).n (s.u 0).c, .slice (s.u 1).a (s.u 1).n (s.u 1).c, .slice (s.u 2).a (s.u 2).n (s.u 2).c, .slice s.c.a s.c.n s.c.c] 28)) 53
  rw [World.size_alloc] at x0
  have g0 := (HBox.new w s 28).next ((Below.refl _ _).alloc (Nat.le_refl _) (.cells #[.bool false, .bool false, .bool false, .int .i64 0, .int .i64 0, .int .i64 0] 53))
  refine (pmay0_any s d _ ((HP.out.below b1).more b1.size) (HZ.out.over b1 hz0) HF.out).mono ?_
  rw [show mayB0 _ d = true from HM.out]
  rintro e w1 ⟨rfl, hb1⟩
  have N1 := Lib.hid (HNow.mk (d := d) (g0.next hb1) (b1.trans (hb1.mono b1.size)) (HP.out.below (b1.trans (hb1.mono b1.size))))
  have X1 := Lib.hid (x0.next hb1)
  have q1 := N1.out.box.c1
  have ql := N1.out.box.lt
  try dsimp only at q1
  clear x0 g0 hb1 b0 b1
  go_wp2_with fail
  refine (Cl.room_any w.heap.size s.p.a s.p.n s.p.c d.f a _ (by have := HF.out.pn; omega) (HZ.out.over N1.out.bel hz0) N1.out.hp.pages N1.out.bel.size).mono ?_
  rw [Cl.bg_room, HB.out]
  rintro e w2 ⟨rfl, hb2⟩
  have X := X1.out.next hb2
  have BW := Lib.hid (N1.out.next hb2).bel
  clear q1 ql X1 N1 hb2
  have y0 := X.cell 0 (by decide)
  have y1 := X.cell 1 (by decide)
  have y2 := X.cell 2 (by decide)
  have y3 := X.cell 3 (by decide)
  have y4 := X.cell 4 (by decide)
  have y5 := X.cell 5 (by decide)
  simp only [Nat.reduceLT, if_true, if_false] at y0 y1 y2 y3 y4 y5
  have z0 := X.free 0
  have z1 := X.free 1
  have z2 := X.free 2
  have z3 := X.free 3
  have z4 := X.free 4
  have z5 := X.free 5
  have zl := X.lt
  clear X
  go_wp2
  refine bodyPost_ret (v := .tuple #[noHead, .int .i64 3]) ?_ rfl ?_
  rotate_left
  · exact ⟨rfl, below_put6 BW.out (b := w.heap.size + 1) (by omega) _ _ _ _ _ _⟩
  simp [results, Tryz.results26, go_sem, noHead, y0, y1, y2, y3, y4, y5]
set_option maxHeartbeats 1000000 in
theorem phead_is (hp : Hp w w.heap.size s d) (hz : Cl.Sz w) (hf : Fine s d) (hm : mayB0 s d = true) (hb : ¬ Cl.bg d.f s.p.n a = 0) (i : Nat) (ha : a - 16 = i) (x : Int) (hx : x = d.ws.getD i 0) (V : Value) (er : Int) (hV0 : x = 0 → V = noHead ∧ er = 3) (hV1 : ¬ x = 0 → V = headOf x ∧ er = 0) :
    Calls Tryz.prog 26 #[(.agg #[.slice s.w.a s.w.n s.w.c, .slice s.p.a s.p.n s.p.c, .slice (s.u 0).a (s.u 0).n (s.u 0).c, .slice (s.u 1).a (s.u 1).n (s.u 1).c, .slice (s.u 2).a (s.u 2).n (s.u 2).c, .slice s.c.a s.c.n s.c.c]), .int .i64 a] w (HeadOut w V er) := by
  have hmw := may0_word hm hb
  have hi : i < s.w.n := by omega
  have hwd : Hd.isWord x = true := by
    have := hmw.2.2.2
    rwa [show (a - 16).toNat = i by omega, ← hx] at this
  have hwm : wordsB s.w.n = true := by
    have := (mayH_all hm).1
    unfold firstB at this
    simp only [Bool.and_eq_true, decide_eq_true_eq] at this
    exact this.1
  have hpn : s.p.n ≤ 1000 := by have := hf.pn; omega
  have ha16 : 16 ≤ a := hmw.2.1
  have han : a < 16 + s.w.n := by omega
  rcases s with ⟨⟨aw, nw, cw⟩, ⟨pp, np, cp⟩, su, ⟨ac, nc, cc⟩⟩
  dsimp only at hi hpn hb hwm han ⊢
  obtain ⟨bw, ow, rfl, hbw, hcw⟩ := hp.words.2 (show 0 < nw by omega)
  have hw0 := hcw i hi
  rw [← hx] at hw0
  have HV0 := Lib.hid hV0
  have HV1 := Lib.hid hV1
  have HP := Lib.hid hp
  have HZ := Lib.hid hz
  have hz0 := hz.pos
  have HM := Lib.hid hm
  have HF := Lib.hid hf
  have hbz : (Cl.bg d.f np a == 0) = false := by simp [hb]
  have HX := Lib.hid hwd
  have HGET := Lib.hid (fun (W : World) (hW : Row W w.heap.size (some ⟨bw, ow, none⟩) nw d.ws) => by
    have := Ar.get_ok w.heap.size (some ⟨bw, ow, none⟩) nw cw d.ws a W hwm ha16 han hW
    rw [show d.ws.getD (a - 16).toNat 0 = x by rw [hx, show (a - 16).toNat = i by omega]] at this
    exact this)
  have i0 : (0 : Int) ≤ i := by omega
  have i1 : (i : Int) < nw := by omega
  clear hp hz hm hf hb hcw hx hmw hwd hV0 hV1 hwm ha16 han ha
  go_enter Tryz.func26, Tryz.ntmps26
  go_wp2_with fail
  have b0 := (Below.refl w.heap.size w).alloc (Nat.le_refl _) (.cells #[.slice (some ⟨bw, ow, none⟩) nw cw, .slice pp np cp, .slice (su 0).a (su 0).n (su 0).c, .slice (su 1).a (su 1).n (su 1).c, .slice (su 2).a (su 2).n (su 2).c, .slice ac nc cc] 28)
  have b1 := b0.alloc (by simp) (.cells #[.bool false, .bool false, .bool false, .int .i64 0, .int .i64 0, .int .i64 0] 53)
  have x0 := XBox.new (w.alloc (.cells #[.slice (some ⟨bw, ow, none⟩) nw cw, .slice pp np cp, .slice (su 0).a (su 0).n (su 0).c, .slice (su 1).a (su 1).n (su 1).c, .slice (su 2).a (su 2).n (su 2).c, .slice ac nc cc] 28)) 53
  rw [World.size_alloc] at x0
  have g0 := (HBox.new w ⟨⟨some ⟨bw, ow, none⟩, nw, cw⟩, ⟨pp, np, cp⟩, su, ⟨ac, nc, cc⟩⟩ 28).next ((Below.refl _ _).alloc (Nat.le_refl _) (.cells #[.bool false, .bool false, .bool false, .int .i64 0, .int .i64 0, .int .i64 0] 53))
  refine (pmay0_any ⟨⟨some ⟨bw, ow, none⟩, nw, cw⟩, ⟨pp, np, cp⟩, su, ⟨ac, nc, cc⟩⟩ d _ ((HP.out.below b1).more b1.size) (HZ.out.over b1 hz0) HF.out).mono ?_
  rw [show mayB0 _ d = true from HM.out]
  rintro e w1 ⟨rfl, hb1⟩
  have N1 := Lib.hid (HNow.mk (d := d) (g0.next hb1) (b1.trans (hb1.mono b1.size)) (HP.out.below (b1.trans (hb1.mono b1.size))))
  have X1 := Lib.hid (x0.next hb1)
  have q1 := N1.out.box.c1
  have ql := N1.out.box.lt
  try dsimp only at q1
  clear x0 g0 hb1 b0 b1
  go_wp2_with fail
  refine (Cl.room_any w.heap.size pp np cp d.f a _ hpn (HZ.out.over N1.out.bel hz0) N1.out.hp.pages N1.out.bel.size).mono ?_
  rw [Cl.bg_room]
  rintro e w2 ⟨rfl, hb2⟩
  have X2 := Lib.hid (X1.out.next hb2)
  have N2 := Lib.hid (N1.out.next hb2)
  have q0 := N2.out.box.c0
  have ql2 := N2.out.box.lt
  dsimp only at q0
  clear q1 ql N1 hb2 hw0 X1
  go_wp2_with fail
  refine (HGET.out _ N2.out.hp.words).mono ?_
  rintro e w3 ⟨rfl, rfl⟩
  go_wp2_with fail
  refine (unpack_any x _).mono ?_
  rw [headOf_yes HX.out, HX.out]
  rintro e w3 ⟨rfl, hb3⟩
  have X := X2.out.next hb3
  have BW := Lib.hid (N2.out.next hb3).bel
  have X3 := Lib.hid X
  have z0 := X.free 0
  have z1 := X.free 1
  have z2 := X.free 2
  have z3 := X.free 3
  have z4 := X.free 4
  have z5 := X.free 5
  have y0 := X.cell 0 (by decide)
  have y1 := X.cell 1 (by decide)
  have y2 := X.cell 2 (by decide)
  have y3 := X.cell 3 (by decide)
  have y4 := X.cell 4 (by decide)
  have y5 := X.cell 5 (by decide)
  simp only [Nat.reduceLT, if_true, if_false] at y0 y1 y2 y3 y4 y5
  have zl := X.lt
  clear X hb3 q0 hbz X2
  by_cases hz : x = 0
  · obtain ⟨rfl, rfl⟩ := HV0.out hz
    have hu : decide (x % 2 = 1) = false := by rw [hz]; decide
    rw [hu]
    clear hz hu
    have KK := Lib.hid (put6_alloc (W := w3) (b := w.heap.size + 1) X3.out (.bool false) (.bool false) (.bool false) (.int .i64 0) (.int .i64 0) (.int .i64 0) (.cells #[.bool false, .bool (decide (x / 2 % 2 = 1)), .bool (decide (x / 4 % 2 = 1)), .int .i64 (nOf x), .int .i64 (x / 1024 % 4194304), .int .i64 (x / 4294967296)] 53))
    go_wp2
    refine bodyPost_ret (v := .tuple #[noHead, .int .i64 3]) ?_ rfl ?_
    rotate_left
    · exact ⟨rfl, (below_put6 BW.out (b := w.heap.size + 1) (by omega) (.bool false) (.bool false) (.bool false) (.int .i64 0) (.int .i64 0) (.int .i64 0)).alloc (by rw [put6_size]; exact BW.out.size) _⟩
    · obtain ⟨k0, k1, k2, k3, k4, k5⟩ := KK.out
      unfold put6 at k0 k1 k2 k3 k4 k5
      clear y0 y1 y2 y3 y4 y5
      simp [results, Tryz.results26, go_sem, noHead, k0, k1, k2, k3, k4, k5]
  · obtain ⟨rfl, rfl⟩ := HV1.out hz
    have hu : decide (x % 2 = 1) = true := decide_eq_true (Classical.byContradiction fun h => hz (Hd.isWord_even HX.out h))
    rw [hu]
    have HU := Lib.hid hu
    clear hz hu
    have KK := Lib.hid (put6_alloc (W := w3) (b := w.heap.size + 1) X3.out (.bool true) (.bool (decide (x / 2 % 2 = 1))) (.bool (decide (x / 4 % 2 = 1))) (.int .i64 (nOf x)) (.int .i64 (x / 1024 % 4194304)) (.int .i64 (x / 4294967296)) (.cells #[.bool true, .bool (decide (x / 2 % 2 = 1)), .bool (decide (x / 4 % 2 = 1)), .int .i64 (nOf x), .int .i64 (x / 1024 % 4194304), .int .i64 (x / 4294967296)] 53))
    go_wp2
    refine bodyPost_ret (v := .tuple #[.agg #[.bool true, .bool (decide (x / 2 % 2 = 1)), .bool (decide (x / 4 % 2 = 1)), .int .i64 (nOf x), .int .i64 (x / 1024 % 4194304), .int .i64 (x / 4294967296)], .int .i64 0]) ?_ rfl ?_
    rotate_left
    · rw [headOf_yes HX.out, HU.out]
      exact ⟨rfl, (below_put6 BW.out (b := w.heap.size + 1) (by omega) (.bool true) (.bool (decide (x / 2 % 2 = 1))) (.bool (decide (x / 4 % 2 = 1))) (.int .i64 (nOf x)) (.int .i64 (x / 1024 % 4194304)) (.int .i64 (x / 4294967296))).alloc (by rw [put6_size]; exact BW.out.size) _⟩
    · obtain ⟨k0, k1, k2, k3, k4, k5⟩ := KK.out
      unfold put6 at k0 k1 k2 k3 k4 k5
      clear y0 y1 y2 y3 y4 y5
      simp [results, Tryz.results26, go_sem, k0, k1, k2, k3, k4, k5]
end
/-- What Head tells. -/
def headE (s : Hs) (d : Hd_) (a : Int) : Int := if mayB0 s d = false then 1 else if Cl.bg d.f s.p.n a = 0 ∨ wd d a = 0 then 3 else 0
def headV (s : Hs) (d : Hd_) (a : Int) : Value := if headE s d a = 0 then headOf (wd d a) else noHead
theorem head_split (s : Hs) (d : Hd_) (a : Int) : (mayB0 s d = false ∧ headE s d a = 1 ∧ headV s d a = noHead) ∨ (mayB0 s d = true ∧ Cl.bg d.f s.p.n a = 0 ∧ headE s d a = 3 ∧ headV s d a = noHead) ∨ (mayB0 s d = true ∧ ¬ Cl.bg d.f s.p.n a = 0 ∧ (wd d a = 0 → headV s d a = noHead ∧ headE s d a = 3) ∧ (¬ wd d a = 0 → headV s d a = headOf (wd d a) ∧ headE s d a = 0)) := by
  cases hm : mayB0 s d
  · have e : headE s d a = 1 := by simp [headE, hm]
    exact .inl ⟨rfl, e, by simp [headV, e]⟩
  · by_cases hb : Cl.bg d.f s.p.n a = 0
    · have e : headE s d a = 3 := by simp [headE, hm, hb]
      exact .inr (.inl ⟨rfl, hb, e, by simp [headV, e]⟩)
    · refine .inr (.inr ⟨rfl, hb, fun h => ?_, fun h => ?_⟩)
      · have e : headE s d a = 3 := by simp [headE, hm, h]
        exact ⟨by simp [headV, e], e⟩
      · have e : headE s d a = 0 := by simp [headE, hm, h, hb]
        exact ⟨by simp [headV, e], e⟩
theorem phead_any (s : Hs) (d : Hd_) (a : Int) (w : World) (hp : Hp w w.heap.size s d) (hz : Cl.Sz w) (hf : Fine s d) : Calls Tryz.prog 26 #[(.agg #[.slice s.w.a s.w.n s.w.c, .slice s.p.a s.p.n s.p.c, .slice (s.u 0).a (s.u 0).n (s.u 0).c, .slice (s.u 1).a (s.u 1).n (s.u 1).c, .slice (s.u 2).a (s.u 2).n (s.u 2).c, .slice s.c.a s.c.n s.c.c]), .int .i64 a] w (HeadOut w (headV s d a) (headE s d a)) := by
  rcases head_split s d a with ⟨hm, e1, e2⟩ | ⟨hm, hb, e1, e2⟩ | ⟨hm, hb, e1, e2⟩
  · rw [e1, e2]; exact phead_bad s d a w hp hz hf hm
  · rw [e1, e2]; exact phead_none s d a w hp hz hf hm hb
  · have := may0_word hm hb
    exact phead_is s d a w hp hz hf hm hb (a - 16).toNat (by omega) _ rfl _ _ e1 e2
theorem rhead_any (s : Hs) (d : Hd_) (a : Int) (w : World) (hp : Hp w w.heap.size s d) (hf : Fine s d) : Calls Tryz.prog 33 #[(.agg #[.slice s.w.a s.w.n s.w.c, .slice s.p.a s.p.n s.p.c, .slice (s.u 0).a (s.u 0).n (s.u 0).c, .slice (s.u 1).a (s.u 1).n (s.u 1).c, .slice (s.u 2).a (s.u 2).n (s.u 2).c, .slice s.c.a s.c.n s.c.c]), .int .i64 a] w (HeadOut w (headV s d a) (headE s d a)) := by
  rcases head_split s d a with ⟨hm, e1, e2⟩ | ⟨hm, hb, e1, e2⟩ | ⟨hm, hb, e1, e2⟩
  · rw [e1, e2]; exact rhead_bad s d a w hp hf.wn (by have := hf.pn; omega) hf.hv hf.len hm
  · rw [e1, e2]; exact rhead_none s d a w hp hf.wn (by have := hf.pn; omega) hf.hv hf.len hm hb
  · have := may0_word hm hb
    exact rhead_is s d a w hp hf.wn hf.pn hf.hv hf.len hm hb (a - 16).toNat (by omega) _ rfl _ _ e1 e2
end Go.Proofs.YtccjelpfmkbmiaaGreatDoor
end
section
namespace Go.Proofs.YtccjelpfmkbmiaaGreatDoor
open Go.RowKit
set_option maxRecDepth 100000

theorem upTo3 (g : Nat → List Int) : (Ls.upTo g 3).length = (g 0).length + (g 1).length + (g 2).length := by
  simp [Ls.upTo, List.range_succ]
  omega
theorem few_parts {s : Hs} (h : fewH s = true) : s.w.n ≤ 130 ∧ s.p.n ≤ 9 ∧ s.c.n ≤ 20 ∧ lightB s.u = true := by
  unfold fewH at h
  simp only [Bool.and_eq_true, decide_eq_true_eq] at h
  exact h
theorem light_len {w : World} {B : Nat} {u : Nat → Ls.Sl} {F : Nat → List Int} (h : lightB u = true) (hl : Ls.L3 w B u F) : (Ls.upTo F 3).length ≤ 210 := by
  have h' := of_decide_eq_true h
  have e0 := hl.len 0 (by decide)
  have e1 := hl.len 1 (by decide)
  have e2 := hl.len 2 (by decide)
  rw [upTo3]
  omega
theorem fine_few {w : World} {B : Nat} {s : Hs} {d : Hd_} (h : fewH s = true) (hp : Hp w B s d) (hv : ∀ i, -9223372036854775808 ≤ d.ws.getD i 0 ∧ d.ws.getD i 0 ≤ 9223372036854775807) : Fine s d := by
  obtain ⟨h0, h1, h2, h3⟩ := few_parts h
  have := light_len h3 hp.free
  exact ⟨by omega, by omega, by omega, hv, by omega⟩
theorem head_form (s : Hs) (d : Hd_) (a : Int) : ∃ (u o e : Bool) (n b m : Int), headV s d a = .agg #[.bool u, .bool o, .bool e, .int .i64 n, .int .i64 b, .int .i64 m] := by
  unfold headV headOf noHead
  split
  · split <;> exact ⟨_, _, _, _, _, _, rfl⟩
  · exact ⟨_, _, _, _, _, _, rfl⟩
/-- A head in its box. -/
structure X6 (W : World) (b : Nat) (x0 x1 x2 : Bool) (x3 x4 x5 : Int) : Prop where
  c0 : W.cell? ⟨b, 0, none⟩ = some (.bool x0)
  c1 : W.cell? ⟨b, 1, none⟩ = some (.bool x1)
  c2 : W.cell? ⟨b, 2, none⟩ = some (.bool x2)
  c3 : W.cell? ⟨b, 3, none⟩ = some (.int .i64 x3)
  c4 : W.cell? ⟨b, 4, none⟩ = some (.int .i64 x4)
  c5 : W.cell? ⟨b, 5, none⟩ = some (.int .i64 x5)
  lt : b < W.heap.size
theorem X6.new (w : World) (x0 x1 x2 : Bool) (x3 x4 x5 : Int) (t : TypeId) : X6 (w.alloc (.cells #[.bool x0, .bool x1, .bool x2, .int .i64 x3, .int .i64 x4, .int .i64 x5] t)) w.heap.size x0 x1 x2 x3 x4 x5 := by
  refine ⟨?_, ?_, ?_, ?_, ?_, ?_, by simp⟩ <;> simp [go_sem]
theorem X6.next {W W' : World} {b : Nat} {x0 x1 x2 : Bool} {x3 x4 x5 : Int} (h : X6 W b x0 x1 x2 x3 x4 x5) (hb : Below W.heap.size W W') : X6 W' b x0 x1 x2 x3 x4 x5 :=
  ⟨(hb.cell (p := ⟨b, 0, none⟩) h.lt).trans h.c0, (hb.cell (p := ⟨b, 1, none⟩) h.lt).trans h.c1, (hb.cell (p := ⟨b, 2, none⟩) h.lt).trans h.c2, (hb.cell (p := ⟨b, 3, none⟩) h.lt).trans h.c3, (hb.cell (p := ⟨b, 4, none⟩) h.lt).trans h.c4, (hb.cell (p := ⟨b, 5, none⟩) h.lt).trans h.c5, Nat.lt_of_lt_of_le h.lt hb.size⟩
theorem used_len (s : Hs) (d : Hd_) : (usedL s d).length ≤ (Cl.allS d.f s.p.n).length := by
  unfold usedL usedF
  split
  · exact List.length_filter_le _ _
  · exact Nat.zero_le _
end Go.Proofs.YtccjelpfmkbmiaaGreatDoor
end
section
namespace Go.Proofs.YtccjelpfmkbmiaaGreatDoor
open Go.RowKit
set_option maxRecDepth 100000

theorem used_fits {d : Hd_} {n : Nat} {a : Int} (hb : ¬ Cl.bg d.f n a = 0) (hc : cellAt d a = true) (hu : wd d a % 2 = 1) : 1 ≤ nOf (wd d a) ∧ nOf (wd d a) < Cl.bg d.f n a := by
  have hp := (page_of (mem_allS.2 hb)).2.2
  have hw := (word_used hc).1
  have e : Cl.bg d.f n a = Cl.pg (pgAt d a) a := by
    unfold Cl.bg at hb ⊢
    split at hb
    · next h => rw [if_pos h]; rfl
    · exact absurd rfl hb
  rw [e] at hb ⊢
  clear e
  unfold cellAt cellB at hc
  rw [show d.ws.getD (a - 16).toNat 0 = wd d a from rfl, show d.f (a / 16 - 1).toNat = pgAt d a from rfl, if_pos ⟨hw, hu⟩] at hc
  generalize nOf (wd d a) = k at hc ⊢
  generalize pgAt d a = p at hc hp hb ⊢
  obtain ⟨p1, p2⟩ := p
  simp only at hc hp hb ⊢
  have h2 := (Bool.and_eq_true _ _ ▸ hc : _ ∧ _)
  have hk : 1 ≤ k ∧ k ≤ 63 := by
    have h3 : Cl.classErr k = 0 := by simpa using h2.1
    unfold Cl.classErr at h3
    split at h3
    · omega
    · split at h3 <;> omega
  have h4 := h2.2
  clear hc h2
  rcases hp with ⟨rfl, g0, g1⟩ | ⟨rfl, g0, g1⟩
  · rw [if_pos rfl] at h4
    have h5 : Cl.classOf k = p2 := by simpa using h4
    have e : Cl.pg (1, p2) a = Cl.wordsOf p2 := by
      unfold Cl.pg at hb ⊢
      simp only at hb ⊢
      split at hb
      · next h => omega
      · next h =>
        rw [if_neg h]
        split at hb
        · next h' => rw [if_pos h']
        · exact absurd rfl hb
    rw [e]
    refine ⟨hk.1, ?_⟩
    unfold Cl.classOf at h5
    split at h5
    · omega
    · split at h5
      · subst h5; simp [Cl.wordsOf]; omega
      · split at h5
        · subst h5; simp [Cl.wordsOf]; omega
        · split at h5
          · subst h5; simp [Cl.wordsOf]; omega
          · omega
  · rw [if_neg (by decide)] at h4
    have h5 := (Bool.and_eq_true _ _ ▸ h4 : _ ∧ _)
    have h6 : Cl.runErr k = 0 := by simpa using h5.1
    have h7 : Cl.runOf k = p2 := by simpa using h5.2
    have e : Cl.pg (2, p2) a = 16 * p2 := by
      unfold Cl.pg at hb ⊢
      simp only at hb ⊢
      split at hb
      · next h => rw [if_pos h]
      · split at hb
        · next h => omega
        · exact absurd rfl hb
    rw [e]
    refine ⟨hk.1, ?_⟩
    unfold Cl.runErr at h6
    unfold Cl.runOf at h7
    split at h7
    · split at h6
      · omega
      · split at h6
        · omega
        · split at h6 <;> omega
    · split at h7
      · omega
      · split at h7
        · omega
        · split at h7 <;> omega
/-- Head tells of an object just where one is used. -/
theorem used_head {s : Hs} {d : Hd_} (hm : mayB0 s d = true) (a : Int) :
    (a ∈ usedL s d ∧ headE s d a = 0 ∧ (∃ o e b m, headV s d a = .agg #[.bool true, .bool o, .bool e, .int .i64 (nOf (wd d a)), .int .i64 b, .int .i64 m]) ∧ 1 ≤ nOf (wd d a) ∧ nOf (wd d a) < Cl.bg d.f s.p.n a) ∨ (¬ a ∈ usedL s d ∧ headE s d a = 3) := by
  have hmem : a ∈ usedL s d ↔ (¬ Cl.bg d.f s.p.n a = 0 ∧ wd d a % 2 = 1) := by
    unfold usedL usedF
    rw [if_pos hm, List.mem_filter, mem_allS, decide_eq_true_iff]
  have hE : headE s d a = if Cl.bg d.f s.p.n a = 0 ∨ wd d a = 0 then 3 else 0 := by
    unfold headE
    rw [if_neg (by rw [hm]; decide)]
  by_cases hb : Cl.bg d.f s.p.n a = 0
  · exact Or.inr ⟨fun h => (hmem.1 h).1 hb, by rw [hE, if_pos (Or.inl hb)]⟩
  · have hc := List.all_eq_true.1 (mayH_all hm).2.1 a (mem_allS.2 hb)
    obtain ⟨hw, h0⟩ := word_used hc
    by_cases hu : wd d a % 2 = 1
    · have hE0 : headE s d a = 0 := by rw [hE, if_neg (by omega)]
      have e2 : headV s d a = .agg #[.bool true, .bool (decide (wd d a / 2 % 2 = 1)), .bool (decide (wd d a / 4 % 2 = 1)), .int .i64 (nOf (wd d a)), .int .i64 (wd d a / 1024 % 4194304), .int .i64 (wd d a / 4294967296)] := by
        unfold headV
        rw [if_pos hE0, headOf_yes hw, show decide (wd d a % 2 = 1) = true from decide_eq_true hu]
      exact Or.inl ⟨hmem.2 ⟨hb, hu⟩, hE0, ⟨_, _, _, _, e2⟩, used_fits hb hc hu⟩
    · exact Or.inr ⟨fun h => hu (hmem.1 h).2, by rw [hE, if_pos (Or.inr (h0 hu).2)]⟩
theorem used_rise (s : Hs) (d : Hd_) : (usedL s d).Pairwise (· < ·) := by
  unfold usedL usedF
  split
  · exact (allS_lt d.f s.p.n).sublist List.filter_sublist
  · exact List.Pairwise.nil
theorem used_in {s : Hs} {d : Hd_} {a : Int} (h : a ∈ usedL s d) : 16 ≤ a ∧ a < 16 + (s.w.n : Int) := by
  unfold usedL usedF at h
  split at h
  · next hm =>
    have hb := mem_allS.1 (List.mem_filter.1 h).1
    have := may0_word hm hb
    omega
  · simp at h
/-- A walk through rising numbers: n of them are behind. -/
structure Upon (xs : List Int) (k : Nat) (t : Int) : Prop where
  le : k ≤ xs.length
  lo : ∀ i, i < k → xs.getD i 0 < t
  hi : ∀ i, k ≤ i → i < xs.length → t ≤ xs.getD i 0
theorem Upon.no {xs : List Int} {k : Nat} {t : Int} (h : Upon xs k t) (hn : ¬ t ∈ xs) : Upon xs k (t + 1) := ⟨h.le, fun i hi => by have := h.lo i hi; omega, fun i h1 h2 => by
  have h3 := h.hi i h1 h2
  have h4 : ¬ xs.getD i 0 = t := fun e => hn (e ▸ getD_mem h2)
  omega⟩
theorem Upon.yes {xs : List Int} {k : Nat} {t : Int} (h : Upon xs k t) (hr : xs.Pairwise (· < ·)) (hn : t ∈ xs) : k < xs.length ∧ xs.getD k 0 = t ∧ Upon xs (k + 1) (t + 1) := by
  obtain ⟨i, hi, e⟩ := List.mem_iff_getElem.1 hn
  have e' : xs.getD i 0 = t := by simp [List.getD, hi, e]
  have hki : k ≤ i := Nat.le_of_not_lt fun hlt => by have := h.lo i hlt; omega
  have hk : k < xs.length := by omega
  have hrise : ∀ p q, p < q → q < xs.length → xs.getD p 0 < xs.getD q 0 := fun p q hpq hq => by
    have := List.pairwise_iff_getElem.1 hr p q (by omega) hq hpq
    simpa [List.getD, hq, show p < xs.length by omega] using this
  have hk2 := h.hi k (Nat.le_refl _) hk
  have hik : i = k := by
    by_cases e2 : i = k
    · exact e2
    · have := hrise k i (by omega) hi
      omega
  subst hik
  exact ⟨hi, e', hi, fun j hj => by
    by_cases e2 : j = i
    · subst e2; omega
    · have := h.lo j (by omega); omega, fun j h1 h2 => by
    have := hrise i j (by omega) h2
    omega⟩
theorem Upon.all {xs : List Int} {k : Nat} {t : Int} (h : Upon xs k t) (ht : ∀ x ∈ xs, x < t) : k = xs.length := by
  have := h.le
  by_cases e : k = xs.length
  · exact e
  · have h1 := h.hi k (Nat.le_refl _) (by omega)
    have h2 := ht _ (getD_mem (show k < xs.length by omega))
    omega
end Go.Proofs.YtccjelpfmkbmiaaGreatDoor
end
section
namespace Go.Proofs.YtccjelpfmkbmiaaGreatDoor
open Go.RowKit
set_option maxRecDepth 100000

/-- A slice is not in that block. -/
def Out (g : Nat) (v : Ls.Sl) : Prop := 0 < v.n → ∀ x, v.a = some x → ¬ x.block = g
/-- A copy was returned; its cards are in a block of their own. -/
def FreshOut (w : World) (s : Hs) (d : Hd_) (e : Ending) (w' : World) : Prop :=
  ∃ t : Hs, e = .returned (.agg #[.slice t.w.a t.w.n t.w.c, .slice t.p.a t.p.n t.p.c, .slice (t.u 0).a (t.u 0).n (t.u 0).c, .slice (t.u 1).a (t.u 1).n (t.u 1).c, .slice (t.u 2).a (t.u 2).n (t.u 2).c, .slice t.c.a t.c.n t.c.c]) ∧ Hp w' w'.heap.size t d ∧ Lens s t ∧ News w.heap.size t ∧ t.p.n ≤ t.p.c ∧ Below w.heap.size w w' ∧
    ∃ g c, t.c = ⟨some ⟨g, 0, none⟩, s.c.n, c⟩ ∧ (∀ i, w'.frozen? ⟨g, i, none⟩ = false) ∧ w.heap.size + 2 ≤ g ∧ g < w'.heap.size ∧ Out g t.w ∧ Out g t.p ∧ ∀ j, j < 3 → Out g (t.u j)
/-- The boxes of the argument and of the result. -/
structure Fr (w W : World) (s : Hs) : Prop where
  bel : Below w.heap.size w W
  box : HBox W w.heap.size s
  res : ∀ j, j < 6 → ∃ v, W.cell? ⟨w.heap.size + 1, j, none⟩ = some v
  free : ∀ j, W.frozen? ⟨w.heap.size + 1, j, none⟩ = false
  lt : w.heap.size + 1 < W.heap.size
section
variable {w W W' : World} {s : Hs} {d : Hd_}
theorem Fr.next (h : Fr w W s) (hb : Below W.heap.size W W') : Fr w W' s :=
  ⟨h.bel.trans (hb.mono h.bel.size), h.box.next hb, fun j hj => by obtain ⟨v, e⟩ := h.res j hj; exact ⟨v, (hb.cell (p := ⟨w.heap.size + 1, j, none⟩) h.lt).trans e⟩, fun j => (hb.frozen (p := ⟨w.heap.size + 1, j, none⟩) h.lt).trans (h.free j), Nat.lt_of_lt_of_le h.lt hb.size⟩
theorem fr_start {t1 t2 : TypeId} (hW : W = (w.alloc (.cells #[.slice s.w.a s.w.n s.w.c, .slice s.p.a s.p.n s.p.c, .slice (s.u 0).a (s.u 0).n (s.u 0).c, .slice (s.u 1).a (s.u 1).n (s.u 1).c, .slice (s.u 2).a (s.u 2).n (s.u 2).c, .slice s.c.a s.c.n s.c.c] t1)).alloc (.cells #[.slice none 0 0, .slice none 0 0, .slice none 0 0, .slice none 0 0, .slice none 0 0, .slice none 0 0] t2)) : Fr w W s := by
  have b1 := HBox.new w s t1
  have b2 : Below (w.alloc (.cells #[.slice s.w.a s.w.n s.w.c, .slice s.p.a s.p.n s.p.c, .slice (s.u 0).a (s.u 0).n (s.u 0).c, .slice (s.u 1).a (s.u 1).n (s.u 1).c, .slice (s.u 2).a (s.u 2).n (s.u 2).c, .slice s.c.a s.c.n s.c.c] t1)).heap.size (w.alloc (.cells #[.slice s.w.a s.w.n s.w.c, .slice s.p.a s.p.n s.p.c, .slice (s.u 0).a (s.u 0).n (s.u 0).c, .slice (s.u 1).a (s.u 1).n (s.u 1).c, .slice (s.u 2).a (s.u 2).n (s.u 2).c, .slice s.c.a s.c.n s.c.c] t1)) W := by rw [hW]; exact (Below.refl _ _).alloc (Nat.le_refl _) _
  refine ⟨by rw [hW]; exact ((Below.refl _ _).alloc (Nat.le_refl _) _).alloc (by simp) _, b1.next b2, fun j hj => ?_, fun j => by rw [hW]; simp [go_sem], by rw [hW]; simp⟩
  match j, hj with
  | 0, _ => exact ⟨_, by rw [hW]; simp [go_sem]; rfl⟩
  | 1, _ => exact ⟨_, by rw [hW]; simp [go_sem]; rfl⟩
  | 2, _ => exact ⟨_, by rw [hW]; simp [go_sem]; rfl⟩
  | 3, _ => exact ⟨_, by rw [hW]; simp [go_sem]; rfl⟩
  | 4, _ => exact ⟨_, by rw [hW]; simp [go_sem]; rfl⟩
  | 5, _ => exact ⟨_, by rw [hW]; simp [go_sem]; rfl⟩
theorem fr_keep (h : Fr w W s ∧ True) (hb : Below W.heap.size W W') : (Fr w W' s ∧ True) ∧ w.heap.size < W'.heap.size ∧ W'.cell? ⟨w.heap.size, 0, none⟩ = some (.slice s.w.a s.w.n s.w.c) ∧ W'.cell? ⟨w.heap.size, 1, none⟩ = some (.slice s.p.a s.p.n s.p.c) ∧ W'.cell? ⟨w.heap.size, 2, none⟩ = some (.slice (s.u 0).a (s.u 0).n (s.u 0).c) ∧ W'.cell? ⟨w.heap.size, 3, none⟩ = some (.slice (s.u 1).a (s.u 1).n (s.u 1).c) ∧ W'.cell? ⟨w.heap.size, 4, none⟩ = some (.slice (s.u 2).a (s.u 2).n (s.u 2).c) ∧ W'.cell? ⟨w.heap.size, 5, none⟩ = some (.slice s.c.a s.c.n s.c.c) := by
  have g := h.1.next hb
  exact ⟨⟨g, trivial⟩, g.box.lt, g.box.c0, g.box.c1, g.box.c2, g.box.c3, g.box.c4, g.box.c5⟩
theorem Fr.put (h : Fr w W s) (v0 v1 v2 v3 v4 v5 : Value) : Fr w (put6 W (w.heap.size + 1) v0 v1 v2 v3 v4 v5) s := by
  have hz := put6_size W (w.heap.size + 1) v0 v1 v2 v3 v4 v5
  obtain ⟨x0, h0⟩ := h.res 0 (by decide)
  obtain ⟨x1, h1⟩ := h.res 1 (by decide)
  obtain ⟨x2, h2⟩ := h.res 2 (by decide)
  obtain ⟨x3, h3⟩ := h.res 3 (by decide)
  obtain ⟨x4, h4⟩ := h.res 4 (by decide)
  obtain ⟨x5, h5⟩ := h.res 5 (by decide)
  refine ⟨below_put6 h.bel (by omega) _ _ _ _ _ _, h.box.same (put6_other _ _ _ _ _ _ _ _ (by omega)) (by rw [hz]; exact Nat.le_refl _), fun j hj => ?_, fun j => ?_, by rw [hz]; exact h.lt⟩
  · match j, hj with
    | 0, _ => exact ⟨v0, by simp [put6, go_sem, h0]⟩
    | 1, _ => exact ⟨v1, by simp [put6, go_sem, h1]⟩
    | 2, _ => exact ⟨v2, by simp [put6, go_sem, h2]⟩
    | 3, _ => exact ⟨v3, by simp [put6, go_sem, h3]⟩
    | 4, _ => exact ⟨v4, by simp [put6, go_sem, h4]⟩
    | 5, _ => exact ⟨v5, by simp [put6, go_sem, h5]⟩
  · unfold put6
    simp only [World.frozen?_setCell]
    exact h.free j
theorem fr_put (h : Fr w W s ∧ True) (v0 v1 v2 v3 v4 v5 : Value) : (Fr w ((((((W.setCell ⟨w.heap.size + 1, 0, none⟩ v0).setCell ⟨w.heap.size + 1, 1, none⟩ v1).setCell ⟨w.heap.size + 1, 2, none⟩ v2).setCell ⟨w.heap.size + 1, 3, none⟩ v3).setCell ⟨w.heap.size + 1, 4, none⟩ v4).setCell ⟨w.heap.size + 1, 5, none⟩ v5) s ∧ True) ∧ w.heap.size < ((((((W.setCell ⟨w.heap.size + 1, 0, none⟩ v0).setCell ⟨w.heap.size + 1, 1, none⟩ v1).setCell ⟨w.heap.size + 1, 2, none⟩ v2).setCell ⟨w.heap.size + 1, 3, none⟩ v3).setCell ⟨w.heap.size + 1, 4, none⟩ v4).setCell ⟨w.heap.size + 1, 5, none⟩ v5).heap.size ∧ ((((((W.setCell ⟨w.heap.size + 1, 0, none⟩ v0).setCell ⟨w.heap.size + 1, 1, none⟩ v1).setCell ⟨w.heap.size + 1, 2, none⟩ v2).setCell ⟨w.heap.size + 1, 3, none⟩ v3).setCell ⟨w.heap.size + 1, 4, none⟩ v4).setCell ⟨w.heap.size + 1, 5, none⟩ v5).cell? ⟨w.heap.size, 0, none⟩ = some (.slice s.w.a s.w.n s.w.c) ∧ ((((((W.setCell ⟨w.heap.size + 1, 0, none⟩ v0).setCell ⟨w.heap.size + 1, 1, none⟩ v1).setCell ⟨w.heap.size + 1, 2, none⟩ v2).setCell ⟨w.heap.size + 1, 3, none⟩ v3).setCell ⟨w.heap.size + 1, 4, none⟩ v4).setCell ⟨w.heap.size + 1, 5, none⟩ v5).cell? ⟨w.heap.size, 1, none⟩ = some (.slice s.p.a s.p.n s.p.c) ∧ ((((((W.setCell ⟨w.heap.size + 1, 0, none⟩ v0).setCell ⟨w.heap.size + 1, 1, none⟩ v1).setCell ⟨w.heap.size + 1, 2, none⟩ v2).setCell ⟨w.heap.size + 1, 3, none⟩ v3).setCell ⟨w.heap.size + 1, 4, none⟩ v4).setCell ⟨w.heap.size + 1, 5, none⟩ v5).cell? ⟨w.heap.size, 2, none⟩ = some (.slice (s.u 0).a (s.u 0).n (s.u 0).c) ∧ ((((((W.setCell ⟨w.heap.size + 1, 0, none⟩ v0).setCell ⟨w.heap.size + 1, 1, none⟩ v1).setCell ⟨w.heap.size + 1, 2, none⟩ v2).setCell ⟨w.heap.size + 1, 3, none⟩ v3).setCell ⟨w.heap.size + 1, 4, none⟩ v4).setCell ⟨w.heap.size + 1, 5, none⟩ v5).cell? ⟨w.heap.size, 3, none⟩ = some (.slice (s.u 1).a (s.u 1).n (s.u 1).c) ∧ ((((((W.setCell ⟨w.heap.size + 1, 0, none⟩ v0).setCell ⟨w.heap.size + 1, 1, none⟩ v1).setCell ⟨w.heap.size + 1, 2, none⟩ v2).setCell ⟨w.heap.size + 1, 3, none⟩ v3).setCell ⟨w.heap.size + 1, 4, none⟩ v4).setCell ⟨w.heap.size + 1, 5, none⟩ v5).cell? ⟨w.heap.size, 4, none⟩ = some (.slice (s.u 2).a (s.u 2).n (s.u 2).c) ∧ ((((((W.setCell ⟨w.heap.size + 1, 0, none⟩ v0).setCell ⟨w.heap.size + 1, 1, none⟩ v1).setCell ⟨w.heap.size + 1, 2, none⟩ v2).setCell ⟨w.heap.size + 1, 3, none⟩ v3).setCell ⟨w.heap.size + 1, 4, none⟩ v4).setCell ⟨w.heap.size + 1, 5, none⟩ v5).cell? ⟨w.heap.size, 5, none⟩ = some (.slice s.c.a s.c.n s.c.c) := by
  have g := h.1.put v0 v1 v2 v3 v4 v5
  exact ⟨⟨g, trivial⟩, g.box.lt, g.box.c0, g.box.c1, g.box.c2, g.box.c3, g.box.c4, g.box.c5⟩
/-- What has been copied so far, slice by slice. -/
def RowN (w W : World) (v : Ls.Sl) (xs : List Int) : Prop := Row W W.heap.size v.a v.n xs ∧ v.n ≤ v.c ∧ v.c ≤ maxLen ∧ New (w.heap.size + 2) v
theorem RowN.next {v : Ls.Sl} {xs : List Int} (h : RowN w W v xs) (hb : Below W.heap.size W W') : RowN w W' v xs := ⟨(h.1.below hb).more hb.size, h.2⟩
theorem rown_of {v : Ls.Sl} {xs : List Int} (h : Fr w W s) (ho : W'.ownsRow W.heap.size 3 1 (.slice v.a v.n v.c) v.n (xs.map (Value.int .i64))) : RowN w W' v xs := by
  have hl := h.lt
  obtain ⟨h1, h2, h3, _, _⟩ := own_off ho (b := w.heap.size) (by omega)
  refine ⟨h1, h2, h3, fun _ x hx => ?_⟩
  have := (ho.lt x.block (by rw [Ls.ownBlock_slice, hx]; rfl)).1
  omega
def PgN (w W : World) (g n c : Nat) (f : Nat → Int × Int) : Prop := Cl.PRow W W.heap.size (some ⟨g, 0, none⟩) n f ∧ w.heap.size + 2 ≤ g ∧ n ≤ c
theorem PgN.next {g n c : Nat} {f : Nat → Int × Int} (h : PgN w W g n c f) (hb : Below W.heap.size W W') : PgN w W' g n c f := ⟨prow_more (h.1.below hb) hb.size, h.2⟩
theorem pgn_of {g n c : Nat} {f : Nat → Int × Int} {ty : TypeId} (h : Fr w W s) (hm : Cl.PMine W' W.heap.size ty g n c f) : PgN w W' g n c f := by
  have hl := h.lt
  exact ⟨hm.row, by have := hm.2.1; omega, hm.2.2.2.1⟩
def LsN (w W : World) (v : Nat → Ls.Sl) (F : Nat → List Int) : Prop := Ls.L3 W W.heap.size v F ∧ ∀ j, j < 3 → New (w.heap.size + 2) (v j)
theorem LsN.next {v : Nat → Ls.Sl} {F : Nat → List Int} (h : LsN w W v F) (hb : Below W.heap.size W W') : LsN w W' v F := ⟨h.1.next hb, h.2⟩
theorem lsn_of {v : Nat → Ls.Sl} {F : Nat → List Int} (h : Fr w W s) (ho : Ls.Own3 W' W.heap.size v F) : LsN w W' v F := by
  have hl := h.lt
  exact ⟨ho.l3, fun j hj _ x hx => by have := (ho.block j hj hx).1; omega⟩
theorem row_out {n g : Nat} {v : Ls.Sl} {xs : List Int} (h : Row W n v.a v.n xs) (hg : n ≤ g) : Out g v := fun h0 x hx => by
  obtain ⟨b', off, e, hlt, _⟩ := h.2 h0
  rw [hx] at e
  cases e
  show ¬ b' = g
  omega
theorem fresh_end {V : World} {v : Ls.Sl} {vu : Nat → Ls.Sl} {g6 c6 g8 c8 : Nat} (v0 v1 v2 v3 v4 v5 : Value) (hl : Hid (Lens s s ∧ s.w.n = d.ws.length ∧ ∀ j, j < 3 → (s.u j).n = (d.F j).length)) (hF : Fr w W s) (hV : Fr w V s) (hr' : RowN w V v d.ws) (hp' : PgN w V g6 s.p.n c6 d.f) (hu' : LsN w V vu d.F) (hb : Below V.heap.size V W) (hc : ∀ i, i < s.c.n → W.cell? ⟨g8, i, none⟩ = some (.bool (d.cs i))) (hz : ∀ i, W.frozen? ⟨g8, i, none⟩ = false) (hg8 : V.heap.size ≤ g8 ∧ g8 < W.heap.size) :
    FreshOut w s d (.returned (.agg #[.slice (⟨v, ⟨some ⟨g6, 0, none⟩, s.p.n, c6⟩, vu, ⟨some ⟨g8, 0, none⟩, s.c.n, c8⟩⟩ : Hs).w.a (⟨v, ⟨some ⟨g6, 0, none⟩, s.p.n, c6⟩, vu, ⟨some ⟨g8, 0, none⟩, s.c.n, c8⟩⟩ : Hs).w.n (⟨v, ⟨some ⟨g6, 0, none⟩, s.p.n, c6⟩, vu, ⟨some ⟨g8, 0, none⟩, s.c.n, c8⟩⟩ : Hs).w.c, .slice (⟨v, ⟨some ⟨g6, 0, none⟩, s.p.n, c6⟩, vu, ⟨some ⟨g8, 0, none⟩, s.c.n, c8⟩⟩ : Hs).p.a (⟨v, ⟨some ⟨g6, 0, none⟩, s.p.n, c6⟩, vu, ⟨some ⟨g8, 0, none⟩, s.c.n, c8⟩⟩ : Hs).p.n (⟨v, ⟨some ⟨g6, 0, none⟩, s.p.n, c6⟩, vu, ⟨some ⟨g8, 0, none⟩, s.c.n, c8⟩⟩ : Hs).p.c, .slice ((⟨v, ⟨some ⟨g6, 0, none⟩, s.p.n, c6⟩, vu, ⟨some ⟨g8, 0, none⟩, s.c.n, c8⟩⟩ : Hs).u 0).a ((⟨v, ⟨some ⟨g6, 0, none⟩, s.p.n, c6⟩, vu, ⟨some ⟨g8, 0, none⟩, s.c.n, c8⟩⟩ : Hs).u 0).n ((⟨v, ⟨some ⟨g6, 0, none⟩, s.p.n, c6⟩, vu, ⟨some ⟨g8, 0, none⟩, s.c.n, c8⟩⟩ : Hs).u 0).c, .slice ((⟨v, ⟨some ⟨g6, 0, none⟩, s.p.n, c6⟩, vu, ⟨some ⟨g8, 0, none⟩, s.c.n, c8⟩⟩ : Hs).u 1).a ((⟨v, ⟨some ⟨g6, 0, none⟩, s.p.n, c6⟩, vu, ⟨some ⟨g8, 0, none⟩, s.c.n, c8⟩⟩ : Hs).u 1).n ((⟨v, ⟨some ⟨g6, 0, none⟩, s.p.n, c6⟩, vu, ⟨some ⟨g8, 0, none⟩, s.c.n, c8⟩⟩ : Hs).u 1).c, .slice ((⟨v, ⟨some ⟨g6, 0, none⟩, s.p.n, c6⟩, vu, ⟨some ⟨g8, 0, none⟩, s.c.n, c8⟩⟩ : Hs).u 2).a ((⟨v, ⟨some ⟨g6, 0, none⟩, s.p.n, c6⟩, vu, ⟨some ⟨g8, 0, none⟩, s.c.n, c8⟩⟩ : Hs).u 2).n ((⟨v, ⟨some ⟨g6, 0, none⟩, s.p.n, c6⟩, vu, ⟨some ⟨g8, 0, none⟩, s.c.n, c8⟩⟩ : Hs).u 2).c, .slice (⟨v, ⟨some ⟨g6, 0, none⟩, s.p.n, c6⟩, vu, ⟨some ⟨g8, 0, none⟩, s.c.n, c8⟩⟩ : Hs).c.a (⟨v, ⟨some ⟨g6, 0, none⟩, s.p.n, c6⟩, vu, ⟨some ⟨g8, 0, none⟩, s.c.n, c8⟩⟩ : Hs).c.n (⟨v, ⟨some ⟨g6, 0, none⟩, s.p.n, c6⟩, vu, ⟨some ⟨g8, 0, none⟩, s.c.n, c8⟩⟩ : Hs).c.c])) (put6 W (w.heap.size + 1) v0 v1 v2 v3 v4 v5) := by
  have hr := hr'.next hb
  have hp := hp'.next hb
  have hu := hu'.next hb
  have hg2 : w.heap.size + 2 ≤ g8 := by have := hV.lt; omega
  have hn : News (w.heap.size + 2) ⟨v, ⟨some ⟨g6, 0, none⟩, s.p.n, c6⟩, vu, ⟨some ⟨g8, 0, none⟩, s.c.n, c8⟩⟩ := ⟨hr.2.2.2, fun _ x hx => by cases hx; exact hp.2.1, hu.2, fun _ x hx => by cases hx; exact hg2⟩
  have hW : Hp W W.heap.size ⟨v, ⟨some ⟨g6, 0, none⟩, s.p.n, c6⟩, vu, ⟨some ⟨g8, 0, none⟩, s.c.n, c8⟩⟩ d := ⟨hr.1, hp.1, hu.1, fun _ => ⟨g8, 0, rfl, hg8.2, fun i hi => by rw [Nat.zero_add]; exact hc i hi⟩⟩
  refine ⟨⟨v, ⟨some ⟨g6, 0, none⟩, s.p.n, c6⟩, vu, ⟨some ⟨g8, 0, none⟩, s.c.n, c8⟩⟩, rfl, hn.kept hW (fun k h1 _ => put6_other _ _ _ _ _ _ _ _ (by omega)) (by rw [put6_size]; exact Nat.le_refl _), ⟨?_, rfl, fun j hj => ?_, rfl⟩, ?_, hp.2.2, below_put6 hF.bel (by omega) _ _ _ _ _ _, g8, c8, rfl, fun i => (World.frozen?_of_block (a := ⟨g8, i, none⟩) (put6_other _ _ _ _ _ _ _ _ (show ¬ g8 = w.heap.size + 1 by omega))).trans (hz i), hg2, by rw [put6_size]; exact hg8.2, row_out hr'.1 hg8.1, ?_, fun j hj => row_out (hu'.1 j hj).1 hg8.1⟩
  · have h1 := hr.1.1
    have h2 := hl.out.2.1
    show v.n = _
    omega
  · have h1 := hu.1.len j hj
    have h2 := hl.out.2.2 j hj
    show (vu j).n = _
    omega
  · exact ⟨fun h0 x hx => by have := hn.w h0 x hx; omega, fun h0 x hx => by have := hn.p h0 x hx; omega, fun j hj h0 x hx => by have := hn.u j hj h0 x hx; omega, fun h0 x hx => by have := hn.c h0 x hx; omega⟩
  · intro h0 x hx
    obtain ⟨b', off, e, hlt, _⟩ := hp'.1 h0
    dsimp only at hx
    rw [hx] at e
    cases e
    show ¬ b' = g8
    omega
end
theorem res_fresh {W : World} {b : Nat} {tm : Array Value} {v0 v1 v2 v3 v4 v5 : Value} (ht : tm[2]? = some (.pointer (some ⟨b, 0, none⟩))) (k0 : W.cell? ⟨b, 0, none⟩ = some v0) (k1 : W.cell? ⟨b, 1, none⟩ = some v1) (k2 : W.cell? ⟨b, 2, none⟩ = some v2) (k3 : W.cell? ⟨b, 3, none⟩ = some v3) (k4 : W.cell? ⟨b, 4, none⟩ = some v4) (k5 : W.cell? ⟨b, 5, none⟩ = some v5) :
    (results Tryz.f41 tm).run Tryz.prog W = .ok (.agg #[v0, v1, v2, v3, v4, v5]) W := by
  simp [results, Tryz.results41, go_sem, ht, k0, k1, k2, k3, k4, k5]
theorem put6_ex {w W : World} {s : Hs} (h : Fr w W s) (v0 v1 v2 v3 v4 v5 : Value) :
    (put6 W (w.heap.size + 1) v0 v1 v2 v3 v4 v5).cell? ⟨w.heap.size + 1, 0, none⟩ = some v0 ∧ (put6 W (w.heap.size + 1) v0 v1 v2 v3 v4 v5).cell? ⟨w.heap.size + 1, 1, none⟩ = some v1 ∧ (put6 W (w.heap.size + 1) v0 v1 v2 v3 v4 v5).cell? ⟨w.heap.size + 1, 2, none⟩ = some v2 ∧
    (put6 W (w.heap.size + 1) v0 v1 v2 v3 v4 v5).cell? ⟨w.heap.size + 1, 3, none⟩ = some v3 ∧ (put6 W (w.heap.size + 1) v0 v1 v2 v3 v4 v5).cell? ⟨w.heap.size + 1, 4, none⟩ = some v4 ∧ (put6 W (w.heap.size + 1) v0 v1 v2 v3 v4 v5).cell? ⟨w.heap.size + 1, 5, none⟩ = some v5 := by
  obtain ⟨x0, h0⟩ := h.res 0 (by decide)
  obtain ⟨x1, h1⟩ := h.res 1 (by decide)
  obtain ⟨x2, h2⟩ := h.res 2 (by decide)
  obtain ⟨x3, h3⟩ := h.res 3 (by decide)
  obtain ⟨x4, h4⟩ := h.res 4 (by decide)
  obtain ⟨x5, h5⟩ := h.res 5 (by decide)
  exact ⟨by simp [put6, go_sem, h0], by simp [put6, go_sem, h1], by simp [put6, go_sem, h2], by simp [put6, go_sem, h3], by simp [put6, go_sem, h4], by simp [put6, go_sem, h5]⟩
set_option maxHeartbeats 4000000 in
theorem fresh_any (s : Hs) (d : Hd_) (w : World) (hp : Hp w w.heap.size s d) (hf : Fine s d) (hfb : firstB s d = true) : Calls Tryz.prog 41 #[(.agg #[.slice s.w.a s.w.n s.w.c, .slice s.p.a s.p.n s.p.c, .slice (s.u 0).a (s.u 0).n (s.u 0).c, .slice (s.u 1).a (s.u 1).n (s.u 1).c, .slice (s.u 2).a (s.u 2).n (s.u 2).c, .slice s.c.a s.c.n s.c.c])] w (FreshOut w s d) := by
  have hpos : 0 < s.p.n ∧ 0 < s.c.n := by
    unfold firstB at hfb
    simp only [Bool.and_eq_true, decide_eq_true_eq] at hfb
    have := ((Cl.mayB_iff _ _).1 hfb.2.1).1
    omega
  have hun : ∀ j, j < 3 → (s.u j).n ≤ 2000000 := fun j hj => by
    have h1 := hf.len
    rw [show (Ls.upTo d.F 3).length = (d.F 0).length + (d.F 1).length + (d.F 2).length by simp [Ls.upTo, List.range_succ]; omega] at h1
    have h2 := hp.free.len j hj
    rcases (show j = 0 ∨ j = 1 ∨ j = 2 by omega) with rfl | rfl | rfl <;> omega
  have C1 := Lib.hid (fun W (h : Below w.heap.size w W) => iclone_any w.heap.size s.w.a s.w.n s.w.c d.ws W (by have := hf.wn; omega) h.size (hp.words.below h))
  have C2 := Lib.hid (fun W (h : Below w.heap.size w W) => Cl.pclone_ok w.heap.size s.p.a s.p.n s.p.c d.f W hpos.1 (by have := hf.pn; omega) (hp.pages.below h))
  have C3 := Lib.hid (fun W (h : Below w.heap.size w W) => Ls.aown_any w.heap.size s.u d.F W (hp.free.below h) h.size hun)
  have C4 := Lib.hid (fun W (h : Below w.heap.size w W) => bclone_ok w.heap.size s.c.a s.c.n s.c.c d.cs W hpos.2 (by have := hf.cn; omega) (hp.cards.below h))
  have HL : Hid (Lens s s ∧ s.w.n = d.ws.length ∧ ∀ j, j < 3 → (s.u j).n = (d.F j).length) := Lib.hid ⟨⟨rfl, rfl, fun _ _ => rfl, rfl⟩, hp.words.1.symm, hp.free.len⟩
  clear hp hf hfb hpos hun
  go_enter Tryz.func41, Tryz.ntmps41
  go_wp2_with fail
  obtain ⟨W0, hW0⟩ : ∃ W0, W0 = (w.alloc (.cells #[.slice s.w.a s.w.n s.w.c, .slice s.p.a s.p.n s.p.c, .slice (s.u 0).a (s.u 0).n (s.u 0).c, .slice (s.u 1).a (s.u 1).n (s.u 1).c, .slice (s.u 2).a (s.u 2).n (s.u 2).c, .slice s.c.a s.c.n s.c.c] 28)).alloc (.cells #[.slice none 0 0, .slice none 0 0, .slice none 0 0, .slice none 0 0, .slice none 0 0, .slice none 0 0] 28) := ⟨_, rfl⟩
  have K0 := Lib.hid (And.intro (fr_start hW0) True.intro)
  rw [← hW0]
  clear hW0
  go_region_held3 (fun W => (Fr w W s ∧ True) ∧ w.heap.size < W.heap.size ∧ W.cell? ⟨w.heap.size, 0, none⟩ = some (.slice s.w.a s.w.n s.w.c) ∧ W.cell? ⟨w.heap.size, 1, none⟩ = some (.slice s.p.a s.p.n s.p.c) ∧ W.cell? ⟨w.heap.size, 2, none⟩ = some (.slice (s.u 0).a (s.u 0).n (s.u 0).c) ∧ W.cell? ⟨w.heap.size, 3, none⟩ = some (.slice (s.u 1).a (s.u 1).n (s.u 1).c) ∧ W.cell? ⟨w.heap.size, 4, none⟩ = some (.slice (s.u 2).a (s.u 2).n (s.u 2).c) ∧ W.cell? ⟨w.heap.size, 5, none⟩ = some (.slice s.c.a s.c.n s.c.c)) (first
    | with_reducible exact fr_put (‹(Fr w _ s ∧ _) ∧ _›).1 _ _ _ _ _ _
    | with_reducible exact fr_keep (‹(Fr w _ s ∧ _) ∧ _›).1 ‹Below _ _ _›
    | with_reducible exact fr_keep K0.out (Below.refl _ _)
    | exact fr_keep K0.out (below_drawn' (Below.refl _ _) 1)) (first
    | ((go_at_call 85; refine (C1.out _ (‹(Fr w _ s ∧ _) ∧ _›).1.1.bel).mono ?_; rintro e w5 ⟨v5, rfl, ho5, hb5⟩; have R5 := Lib.hid (rown_of (‹(Fr w _ s ∧ _) ∧ _›).1.1 ho5); clear ho5))
    | ((go_at_call 86; refine (C2.out _ (‹(Fr w _ s ∧ _) ∧ _›).1.1.bel).mono ?_; rintro e w6 ⟨g6, c6, rfl, hm6, hb6⟩; have R6 := Lib.hid (And.intro (R5.out.next hb6) (pgn_of (‹(Fr w _ s ∧ _) ∧ _›).1.1 hm6)); clear hm6))
    | ((go_at_call 87; refine (C3.out _ (‹(Fr w _ s ∧ _) ∧ _›).1.1.bel).mono ?_; rintro e w7 ⟨v7, rfl, ho7, hb7⟩; have R7 := Lib.hid (And.intro (R6.out.1.next hb7) (And.intro (R6.out.2.next hb7) (lsn_of (‹(Fr w _ s ∧ _) ∧ _›).1.1 ho7))); clear ho7))
    | ((go_at_call 88; refine (C4.out _ (‹(Fr w _ s ∧ _) ∧ _›).1.1.bel).mono ?_; rintro e w8 ⟨g8, c8, rfl, hm8, hz8, hg8, hl8, hb8⟩; have F8 := Lib.hid ((‹(Fr w _ s ∧ _) ∧ _›).1.1.next hb8); have F7 := Lib.hid (‹(Fr w w7 s ∧ _) ∧ _›).1.1; have R8 := Lib.hid (And.intro R7.out (And.intro hb8 (And.intro hm8 (And.intro hz8 (And.intro hg8 hl8))))); obtain ⟨x0, h0⟩ := F8.out.res 0 (by decide); obtain ⟨x1, h1⟩ := F8.out.res 1 (by decide); obtain ⟨x2, h2⟩ := F8.out.res 2 (by decide); obtain ⟨x3, h3⟩ := F8.out.res 3 (by decide); obtain ⟨x4, h4⟩ := F8.out.res 4 (by decide); obtain ⟨x5, h5⟩ := F8.out.res 5 (by decide); have y0 := F8.out.free 0; have y1 := F8.out.free 1; have y2 := F8.out.free 2; have y3 := F8.out.free 3; have y4 := F8.out.free 4; have y5 := F8.out.free 5; have yl := F8.out.lt; clear hm8 hz8 hg8 hl8)))
  go_wp2
  refine bodyPost_ret (v := (.agg #[.slice (⟨v5, ⟨some ⟨g6, 0, none⟩, s.p.n, c6⟩, v7, ⟨some ⟨g8, 0, none⟩, s.c.n, c8⟩⟩ : Hs).w.a (⟨v5, ⟨some ⟨g6, 0, none⟩, s.p.n, c6⟩, v7, ⟨some ⟨g8, 0, none⟩, s.c.n, c8⟩⟩ : Hs).w.n (⟨v5, ⟨some ⟨g6, 0, none⟩, s.p.n, c6⟩, v7, ⟨some ⟨g8, 0, none⟩, s.c.n, c8⟩⟩ : Hs).w.c, .slice (⟨v5, ⟨some ⟨g6, 0, none⟩, s.p.n, c6⟩, v7, ⟨some ⟨g8, 0, none⟩, s.c.n, c8⟩⟩ : Hs).p.a (⟨v5, ⟨some ⟨g6, 0, none⟩, s.p.n, c6⟩, v7, ⟨some ⟨g8, 0, none⟩, s.c.n, c8⟩⟩ : Hs).p.n (⟨v5, ⟨some ⟨g6, 0, none⟩, s.p.n, c6⟩, v7, ⟨some ⟨g8, 0, none⟩, s.c.n, c8⟩⟩ : Hs).p.c, .slice ((⟨v5, ⟨some ⟨g6, 0, none⟩, s.p.n, c6⟩, v7, ⟨some ⟨g8, 0, none⟩, s.c.n, c8⟩⟩ : Hs).u 0).a ((⟨v5, ⟨some ⟨g6, 0, none⟩, s.p.n, c6⟩, v7, ⟨some ⟨g8, 0, none⟩, s.c.n, c8⟩⟩ : Hs).u 0).n ((⟨v5, ⟨some ⟨g6, 0, none⟩, s.p.n, c6⟩, v7, ⟨some ⟨g8, 0, none⟩, s.c.n, c8⟩⟩ : Hs).u 0).c, .slice ((⟨v5, ⟨some ⟨g6, 0, none⟩, s.p.n, c6⟩, v7, ⟨some ⟨g8, 0, none⟩, s.c.n, c8⟩⟩ : Hs).u 1).a ((⟨v5, ⟨some ⟨g6, 0, none⟩, s.p.n, c6⟩, v7, ⟨some ⟨g8, 0, none⟩, s.c.n, c8⟩⟩ : Hs).u 1).n ((⟨v5, ⟨some ⟨g6, 0, none⟩, s.p.n, c6⟩, v7, ⟨some ⟨g8, 0, none⟩, s.c.n, c8⟩⟩ : Hs).u 1).c, .slice ((⟨v5, ⟨some ⟨g6, 0, none⟩, s.p.n, c6⟩, v7, ⟨some ⟨g8, 0, none⟩, s.c.n, c8⟩⟩ : Hs).u 2).a ((⟨v5, ⟨some ⟨g6, 0, none⟩, s.p.n, c6⟩, v7, ⟨some ⟨g8, 0, none⟩, s.c.n, c8⟩⟩ : Hs).u 2).n ((⟨v5, ⟨some ⟨g6, 0, none⟩, s.p.n, c6⟩, v7, ⟨some ⟨g8, 0, none⟩, s.c.n, c8⟩⟩ : Hs).u 2).c, .slice (⟨v5, ⟨some ⟨g6, 0, none⟩, s.p.n, c6⟩, v7, ⟨some ⟨g8, 0, none⟩, s.c.n, c8⟩⟩ : Hs).c.a (⟨v5, ⟨some ⟨g6, 0, none⟩, s.p.n, c6⟩, v7, ⟨some ⟨g8, 0, none⟩, s.c.n, c8⟩⟩ : Hs).c.n (⟨v5, ⟨some ⟨g6, 0, none⟩, s.p.n, c6⟩, v7, ⟨some ⟨g8, 0, none⟩, s.c.n, c8⟩⟩ : Hs).c.c])) ?_ rfl (fresh_end _ _ _ _ _ _ HL F8.out F7.out R8.out.1.1 R8.out.1.2.1 R8.out.1.2.2 R8.out.2.1 R8.out.2.2.1 R8.out.2.2.2.1 R8.out.2.2.2.2)
  obtain ⟨k0, k1, k2, k3, k4, k5⟩ := put6_ex F8.out (.slice v5.a v5.n v5.c) (.slice (some ⟨g6, 0, none⟩) s.p.n c6) (.slice (v7 0).a (v7 0).n (v7 0).c) (.slice (v7 1).a (v7 1).n (v7 1).c) (.slice (v7 2).a (v7 2).n (v7 2).c) (.slice (some ⟨g8, 0, none⟩) s.c.n c8)
  exact res_fresh rfl k0 k1 k2 k3 k4 k5
end Go.Proofs.YtccjelpfmkbmiaaGreatDoor
end
section
namespace Go.Proofs.YtccjelpfmkbmiaaGreatDoor
open Go.RowKit
set_option maxRecDepth 100000

theorem list_nothing {w : World} {ops : Array Oper} {rest : List Oper} {o : Oper} {a : Act} {Q : Exit → Act → World → Prop} {T E : TypeId} {i0 : TypeInfo} (hu : Tryz.prog.underlying T = some (.slice E)) (hi : Tryz.prog.info? E = some i0) (hgd : o.guard = none) (s x : Operand)
    (ho : o.op = .call { callee := .builtin .append, args := #[s, x], argTypes := #[T, T] }) {p : Option Addr} {m c : Nat} {v : Value}
    (hs : a.eval s = .slice p m c) (hx : a.eval x = v) (hle : m ≤ c) (hsrc : Src Tryz.prog i0.size T v 0 [] w)
    (hK : wpList Tryz.prog ops Q rest (a.put o.dst (.slice p m c)) w) : wpList Tryz.prog ops Q (o :: rest) a w :=
  wpList_plain hgd fun _ hK' => by
    have hrun := run_append_nothing (P := Tryz.prog) w T T o.type E i0 hu hi p m c hle v hsrc
    unfold Oper.wp execOp
    simp only [ho, resolve, invoke, builtin, Sem.run_bind, Sem.run_pure, Result.andThen_ok, List.map_toArray, List.map_cons, List.map_nil, hs, hx, hrun]
    exact hK' _ _ hK
/-- Pages that were cloned, none too. -/
def PClo (w : World) (n : Nat) (f : Nat → Int × Int) (e : Ending) (w' : World) : Prop :=
  ∃ (v : Ls.Sl), v.n = n ∧ e = .returned (.slice v.a n v.c) ∧ Cl.PRow w' w'.heap.size v.a n f ∧ New w.heap.size v ∧ Below w.heap.size w w'
def BClo (w : World) (n : Nat) (f : Nat → Bool) (e : Ending) (w' : World) : Prop :=
  ∃ (v : Ls.Sl), v.n = n ∧ e = .returned (.slice v.a n v.c) ∧ BRow w' w'.heap.size v.a n f ∧ New w.heap.size v ∧ Below w.heap.size w w'
theorem pclone_none (A : Option Addr) (c : Nat) (f : Nat → Int × Int) (w : World) : Calls Tryz.prog 86 #[.slice A 0 c] w (PClo w 0 f) := by
  obtain ⟨i0, hi, hz0, hz1, hz2⟩ := info_parts Cl.info_page
  have q22 : ∀ (w : World) (a : Option Addr) (n c n' c' : Nat), (binOp .eql 23 (.slice a n c) (.slice none n' c')).run Tryz.prog w = .ok (.bool a.isNone) w := fun w a n c n' c' => Lib.run_eql_slice_nil w _ _ a n c n' c' Tryz.underlying23
  cases A with
  | none =>
    go_enter Tryz.func86, Tryz.ntmps86
    go_wp2
    go_ret
    exact ⟨⟨none, 0, 0⟩, rfl, rfl, fun h => absurd h (Nat.lt_irrefl 0), fun h => absurd h (Nat.lt_irrefl 0), Below.refl _ _⟩
  | some x =>
    have hsrc : ∀ w, Src Tryz.prog i0.size 23 (.slice (some x) 0 c) 0 [] w := fun w => by
      rw [hz1]
      exact Src.ofSlice _ Tryz.underlying23 x 0 c [] rfl (by simp) (by simp)
    go_enter Tryz.func86, Tryz.ntmps86
    go_wp2_with (at_builtin; refine list_nothing Tryz.underlying23 hi rfl _ _ rfl rfl rfl (Nat.zero_le _) (hsrc _) ?_)
    go_wp2
    go_ret
    exact ⟨⟨some ⟨w.heap.size, 0, none⟩, 0, 0⟩, rfl, rfl, fun h => absurd h (Nat.lt_irrefl 0), fun h => absurd h (Nat.lt_irrefl 0), (Below.refl _ _).alloc (Nat.le_refl _) _⟩
theorem bclone_none (A : Option Addr) (c : Nat) (f : Nat → Bool) (w : World) : Calls Tryz.prog 88 #[.slice A 0 c] w (BClo w 0 f) := by
  obtain ⟨i0, hi, hz0, hz1, hz2⟩ := info_parts info_boolC
  have q22 : ∀ (w : World) (a : Option Addr) (n c n' c' : Nat), (binOp .eql 26 (.slice a n c) (.slice none n' c')).run Tryz.prog w = .ok (.bool a.isNone) w := fun w a n c n' c' => Lib.run_eql_slice_nil w _ _ a n c n' c' Tryz.underlying26
  cases A with
  | none =>
    go_enter Tryz.func88, Tryz.ntmps88
    go_wp2
    go_ret
    exact ⟨⟨none, 0, 0⟩, rfl, rfl, fun h => absurd h (Nat.lt_irrefl 0), fun h => absurd h (Nat.lt_irrefl 0), Below.refl _ _⟩
  | some x =>
    have hsrc : ∀ w, Src Tryz.prog i0.size 26 (.slice (some x) 0 c) 0 [] w := fun w => by
      rw [hz1]
      exact Src.ofSlice _ Tryz.underlying26 x 0 c [] rfl (by simp) (by simp)
    go_enter Tryz.func88, Tryz.ntmps88
    go_wp2_with (at_builtin; refine list_nothing Tryz.underlying26 hi rfl _ _ rfl rfl rfl (Nat.zero_le _) (hsrc _) ?_)
    go_wp2
    go_ret
    exact ⟨⟨some ⟨w.heap.size, 0, none⟩, 0, 0⟩, rfl, rfl, fun h => absurd h (Nat.lt_irrefl 0), fun h => absurd h (Nat.lt_irrefl 0), (Below.refl _ _).alloc (Nat.le_refl _) _⟩
theorem pclone_any (B : Nat) (A : Option Addr) (n c : Nat) (f : Nat → Int × Int) (w : World) (hbig : n ≤ 1000) (hr : Cl.PRow w B A n f) : Calls Tryz.prog 86 #[.slice A n c] w (PClo w n f) := by
  by_cases hn : n = 0
  · subst hn
    exact pclone_none A c f w
  · exact (Cl.pclone_ok B A n c f w (by omega) hbig hr).mono fun e w' ⟨g, c', he, hm, hb⟩ => ⟨⟨some ⟨g, 0, none⟩, n, c'⟩, rfl, he, hm.row, fun _ x hx => by cases hx; exact hm.2.1, hb⟩
theorem bclone_any (B : Nat) (A : Option Addr) (n c : Nat) (f : Nat → Bool) (w : World) (hbig : n ≤ 1000000) (hr : BRow w B A n f) : Calls Tryz.prog 88 #[.slice A n c] w (BClo w n f) := by
  by_cases hn : n = 0
  · subst hn
    exact bclone_none A c f w
  · exact (bclone_ok B A n c f w (by omega) hbig hr).mono fun e w' ⟨g, c', he, hm, _, hg, hl, hb⟩ => ⟨⟨some ⟨g, 0, none⟩, n, c'⟩, rfl, he, fun _ => ⟨g, 0, rfl, hl, fun i hi => by rw [Nat.zero_add]; exact hm i hi⟩, fun _ x hx => by cases hx; exact hg, hb⟩
/-- A copy was returned. -/
def FreshW (w : World) (s : Hs) (d : Hd_) (e : Ending) (w' : World) : Prop :=
  ∃ t : Hs, e = .returned (.agg #[.slice t.w.a t.w.n t.w.c, .slice t.p.a t.p.n t.p.c, .slice (t.u 0).a (t.u 0).n (t.u 0).c, .slice (t.u 1).a (t.u 1).n (t.u 1).c, .slice (t.u 2).a (t.u 2).n (t.u 2).c, .slice t.c.a t.c.n t.c.c]) ∧ Hp w' w'.heap.size t d ∧ Lens s t ∧ News w.heap.size t ∧ Below w.heap.size w w'
section
variable {w W W' : World} {s : Hs} {d : Hd_}
def PgW (w W : World) (v : Ls.Sl) (n : Nat) (f : Nat → Int × Int) : Prop := v.n = n ∧ Cl.PRow W W.heap.size v.a n f ∧ New (w.heap.size + 2) v
theorem PgW.next {v : Ls.Sl} {n : Nat} {f : Nat → Int × Int} (h : PgW w W v n f) (hb : Below W.heap.size W W') : PgW w W' v n f := ⟨h.1, prow_more (h.2.1.below hb) hb.size, h.2.2⟩
theorem pgw_of {v : Ls.Sl} {n : Nat} {f : Nat → Int × Int} (h : Fr w W s) (hn : v.n = n) (hr : Cl.PRow W' W'.heap.size v.a n f) (hw : New W.heap.size v) : PgW w W' v n f :=
  ⟨hn, hr, fun h0 x hx => by have := hw h0 x hx; have := h.lt; omega⟩
theorem freshw_end {v p c : Ls.Sl} {vu : Nat → Ls.Sl} (v0 v1 v2 v3 v4 v5 : Value) (hl : Hid (Lens s s ∧ s.w.n = d.ws.length ∧ ∀ j, j < 3 → (s.u j).n = (d.F j).length)) (hF : Fr w W s) (hr : RowN w W v d.ws) (hp : PgW w W p s.p.n d.f) (hu : LsN w W vu d.F) (hc : BRow W W.heap.size c.a s.c.n d.cs) (hcn : c.n = s.c.n) (hcw : New (w.heap.size + 2) c) :
    FreshW w s d (.returned (.agg #[.slice v.a v.n v.c, .slice p.a s.p.n p.c, .slice (vu 0).a (vu 0).n (vu 0).c, .slice (vu 1).a (vu 1).n (vu 1).c, .slice (vu 2).a (vu 2).n (vu 2).c, .slice c.a s.c.n c.c])) (put6 W (w.heap.size + 1) v0 v1 v2 v3 v4 v5) := by
  obtain ⟨e1, hp1, hp2⟩ := hp
  have hn : News (w.heap.size + 2) ⟨v, p, vu, c⟩ := ⟨hr.2.2.2, hp2, hu.2, hcw⟩
  have hW : Hp W W.heap.size ⟨v, p, vu, c⟩ d := ⟨hr.1, by rw [e1]; exact hp1, hu.1, by rw [hcn]; exact hc⟩
  refine ⟨⟨v, p, vu, c⟩, by rw [e1, hcn], hn.kept hW (fun k h1 _ => put6_other _ _ _ _ _ _ _ _ (by omega)) (by rw [put6_size]; exact Nat.le_refl _), ⟨?_, e1, fun j hj => ?_, hcn⟩, ⟨fun h0 x hx => by have := hn.w h0 x hx; omega, fun h0 x hx => by have := hn.p h0 x hx; omega, fun j hj h0 x hx => by have := hn.u j hj h0 x hx; omega, fun h0 x hx => by have := hn.c h0 x hx; omega⟩, below_put6 hF.bel (by omega) _ _ _ _ _ _⟩
  · have h1 := hr.1.1
    have h2 := hl.out.2.1
    show v.n = _
    omega
  · have h1 := hu.1.len j hj
    have h2 := hl.out.2.2 j hj
    show (vu j).n = _
    omega
end
set_option maxHeartbeats 4000000 in
theorem fresh_all (s : Hs) (d : Hd_) (w : World) (hp : Hp w w.heap.size s d) (hf : Fine s d) : Calls Tryz.prog 41 #[(.agg #[.slice s.w.a s.w.n s.w.c, .slice s.p.a s.p.n s.p.c, .slice (s.u 0).a (s.u 0).n (s.u 0).c, .slice (s.u 1).a (s.u 1).n (s.u 1).c, .slice (s.u 2).a (s.u 2).n (s.u 2).c, .slice s.c.a s.c.n s.c.c])] w (FreshW w s d) := by
  have hun : ∀ j, j < 3 → (s.u j).n ≤ 2000000 := fun j hj => by
    have h1 := hf.len
    rw [show (Ls.upTo d.F 3).length = (d.F 0).length + (d.F 1).length + (d.F 2).length by simp [Ls.upTo, List.range_succ]; omega] at h1
    have h2 := hp.free.len j hj
    rcases (show j = 0 ∨ j = 1 ∨ j = 2 by omega) with rfl | rfl | rfl <;> omega
  have C1 := Lib.hid (fun W (h : Below w.heap.size w W) => iclone_any w.heap.size s.w.a s.w.n s.w.c d.ws W (by have := hf.wn; omega) h.size (hp.words.below h))
  have C2 := Lib.hid (fun W (h : Below w.heap.size w W) => pclone_any w.heap.size s.p.a s.p.n s.p.c d.f W (by have := hf.pn; omega) (hp.pages.below h))
  have C3 := Lib.hid (fun W (h : Below w.heap.size w W) => Ls.aown_any w.heap.size s.u d.F W (hp.free.below h) h.size hun)
  have C4 := Lib.hid (fun W (h : Below w.heap.size w W) => bclone_any w.heap.size s.c.a s.c.n s.c.c d.cs W (by have := hf.cn; omega) (hp.cards.below h))
  have HL : Hid (Lens s s ∧ s.w.n = d.ws.length ∧ ∀ j, j < 3 → (s.u j).n = (d.F j).length) := Lib.hid ⟨⟨rfl, rfl, fun _ _ => rfl, rfl⟩, hp.words.1.symm, hp.free.len⟩
  clear hp hf hun
  go_enter Tryz.func41, Tryz.ntmps41
  go_wp2_with fail
  obtain ⟨W0, hW0⟩ : ∃ W0, W0 = (w.alloc (.cells #[.slice s.w.a s.w.n s.w.c, .slice s.p.a s.p.n s.p.c, .slice (s.u 0).a (s.u 0).n (s.u 0).c, .slice (s.u 1).a (s.u 1).n (s.u 1).c, .slice (s.u 2).a (s.u 2).n (s.u 2).c, .slice s.c.a s.c.n s.c.c] 28)).alloc (.cells #[.slice none 0 0, .slice none 0 0, .slice none 0 0, .slice none 0 0, .slice none 0 0, .slice none 0 0] 28) := ⟨_, rfl⟩
  have K0 := Lib.hid (And.intro (fr_start hW0) True.intro)
  rw [← hW0]
  clear hW0
  go_region_held3 (fun W => (Fr w W s ∧ True) ∧ w.heap.size < W.heap.size ∧ W.cell? ⟨w.heap.size, 0, none⟩ = some (.slice s.w.a s.w.n s.w.c) ∧ W.cell? ⟨w.heap.size, 1, none⟩ = some (.slice s.p.a s.p.n s.p.c) ∧ W.cell? ⟨w.heap.size, 2, none⟩ = some (.slice (s.u 0).a (s.u 0).n (s.u 0).c) ∧ W.cell? ⟨w.heap.size, 3, none⟩ = some (.slice (s.u 1).a (s.u 1).n (s.u 1).c) ∧ W.cell? ⟨w.heap.size, 4, none⟩ = some (.slice (s.u 2).a (s.u 2).n (s.u 2).c) ∧ W.cell? ⟨w.heap.size, 5, none⟩ = some (.slice s.c.a s.c.n s.c.c)) (first
    | with_reducible exact fr_put (‹(Fr w _ s ∧ _) ∧ _›).1 _ _ _ _ _ _
    | with_reducible exact fr_keep (‹(Fr w _ s ∧ _) ∧ _›).1 ‹Below _ _ _›
    | with_reducible exact fr_keep K0.out (Below.refl _ _)
    | exact fr_keep K0.out (below_drawn' (Below.refl _ _) 1)) (first
    | ((go_at_call 85; refine (C1.out _ (‹(Fr w _ s ∧ _) ∧ _›).1.1.bel).mono ?_; rintro e w5 ⟨v5, rfl, ho5, hb5⟩; have R5 := Lib.hid (rown_of (‹(Fr w _ s ∧ _) ∧ _›).1.1 ho5); clear ho5))
    | ((go_at_call 86; refine (C2.out _ (‹(Fr w _ s ∧ _) ∧ _›).1.1.bel).mono ?_; rintro e w6 ⟨v6, hn6, rfl, hm6, hg6, hb6⟩; have R6 := Lib.hid (And.intro (R5.out.next hb6) (pgw_of (‹(Fr w _ s ∧ _) ∧ _›).1.1 hn6 hm6 hg6)); clear hn6 hm6 hg6))
    | ((go_at_call 87; refine (C3.out _ (‹(Fr w _ s ∧ _) ∧ _›).1.1.bel).mono ?_; rintro e w7 ⟨v7, rfl, ho7, hb7⟩; have R7 := Lib.hid (And.intro (R6.out.1.next hb7) (And.intro (R6.out.2.next hb7) (lsn_of (‹(Fr w _ s ∧ _) ∧ _›).1.1 ho7))); clear ho7))
    | ((go_at_call 88; refine (C4.out _ (‹(Fr w _ s ∧ _) ∧ _›).1.1.bel).mono ?_; rintro e w8 ⟨v8, hn8, rfl, hm8, hg8, hb8⟩; have F8 := Lib.hid ((‹(Fr w _ s ∧ _) ∧ _›).1.1.next hb8); have R8 := Lib.hid (And.intro (R7.out.1.next hb8) (And.intro (R7.out.2.1.next hb8) (And.intro (R7.out.2.2.next hb8) (And.intro hm8 (And.intro hn8 (show New (w.heap.size + 2) v8 from fun h0 x hx => by have h1 := hg8 h0 x hx; have h2 := (‹(Fr w w7 s ∧ _) ∧ _›).1.1.lt; omega)))))); obtain ⟨x0, h0⟩ := F8.out.res 0 (by decide); obtain ⟨x1, h1⟩ := F8.out.res 1 (by decide); obtain ⟨x2, h2⟩ := F8.out.res 2 (by decide); obtain ⟨x3, h3⟩ := F8.out.res 3 (by decide); obtain ⟨x4, h4⟩ := F8.out.res 4 (by decide); obtain ⟨x5, h5⟩ := F8.out.res 5 (by decide); have y0 := F8.out.free 0; have y1 := F8.out.free 1; have y2 := F8.out.free 2; have y3 := F8.out.free 3; have y4 := F8.out.free 4; have y5 := F8.out.free 5; have yl := F8.out.lt; clear hn8 hm8 hg8)))
  go_wp2
  refine bodyPost_ret (v := .agg #[.slice v5.a v5.n v5.c, .slice v6.a s.p.n v6.c, .slice (v7 0).a (v7 0).n (v7 0).c, .slice (v7 1).a (v7 1).n (v7 1).c, .slice (v7 2).a (v7 2).n (v7 2).c, .slice v8.a s.c.n v8.c]) ?_ rfl (freshw_end _ _ _ _ _ _ HL F8.out R8.out.1 R8.out.2.1 R8.out.2.2.1 R8.out.2.2.2.1 R8.out.2.2.2.2.1 R8.out.2.2.2.2.2)
  obtain ⟨k0, k1, k2, k3, k4, k5⟩ := put6_ex F8.out (.slice v5.a v5.n v5.c) (.slice v6.a s.p.n v6.c) (.slice (v7 0).a (v7 0).n (v7 0).c) (.slice (v7 1).a (v7 1).n (v7 1).c) (.slice (v7 2).a (v7 2).n (v7 2).c) (.slice v8.a s.c.n v8.c)
  exact res_fresh rfl k0 k1 k2 k3 k4 k5
end Go.Proofs.YtccjelpfmkbmiaaGreatDoor
end
section
namespace Go.Proofs.YtccjelpfmkbmiaaGreatDoor.Sh
open Go.Proofs.YtccjelpfmkbmiaaGreatDoor

/-- A collector. -/
structure Ks where
  ph : Int
  ep : Int
  mj : Bool
  wk : Ls.Sl
  ov : Bool
  pa : Int
  pf : Int
  ps : Int
  pc : Int
  me : Bool
end Go.Proofs.YtccjelpfmkbmiaaGreatDoor.Sh
end
