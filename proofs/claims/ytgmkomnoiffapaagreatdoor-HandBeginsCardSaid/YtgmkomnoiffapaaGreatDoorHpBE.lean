/-
  Merged texts: HpAmong, HpPure, HpConcat, HpMayP, HpHead, HpUsedP, HpUsed, HpHeadI, HpHeadP, HpFew, HpObj, HpWholeP, HpNewP, PgFind, PgRefFind, PgFill, HpClone, HpCp, HpSetP.
-/
import Derived.Test.YtgmkomnoiffapaaGreatDoorHpBD
import Derived.Test.YtgmkomnoiffapaaGreatDoorBHpMayK
import Derived.Test.YtgmkomnoiffapaaGreatDoorHpBC
import Derived.LoopN
import Derived.RangeFuncBox
import Derived.Test.YtgmkomnoiffapaaGreatDoorHpBB
import Derived.Deep.LoopGhost
import Derived.Lib.SliceRun
section
namespace Go.Proofs.YtgmkomnoiffapaaGreatDoor
open Go.RowKit
set_option maxRecDepth 100000

/-- The box of one number. -/
theorem amongK_any (w W : World) (bu bk B : Nat) (V : Nat → Ls.Sl) (G : Nat → List Int) (j : Nat) (hj : j < 3) (x : Int) (hx : Ls.Box3 w bu V) (hk : w.cell? ⟨bk, 0, none⟩ = some (.int .i64 j)) (hkl : bk < w.heap.size) (hl : Ls.L3 w B V G) (hB : B ≤ w.heap.size) (hs : (G j).Pairwise (· ≤ ·)) (hn : (G j).length ≤ 1000000) (hb : Below w.heap.size w W) :
    Calls Tryz.prog 89 #[.int .i64 x, .pointer (some ⟨bu, 0, none⟩), .pointer (some ⟨bk, 0, none⟩)] W fun e w' => e = .returned (.bool (!decide (x ∈ G j))) ∧ ∃ q, w' = W.drewN q := by
  have hX := hx.next hb
  have c0 := hX.cell j hj
  have cl := hX.lt
  have k0 := (hb.cell (p := ⟨bk, 0, none⟩) hkl).trans hk
  have kl : bk < W.heap.size := by have := hb.size; omega
  have hr := (hl.below (hb.mono hB)) j hj
  have HR := Lib.hid hr.1
  have HS := Lib.hid hs
  have hn2 : (V j).n ≤ 100000000 := by have := hr.1.1; omega
  have j0 : (0 : Int) ≤ j := by omega
  have j1 : (j : Int) < 3 := by omega
  clear hX hr hs hl hk hx hb hn
  go_enter Tryz.func89, Tryz.ntmps89
  go_wp2_with fail
  refine (has_any B _ _ _ (G j) x _ hn2 HR.out HS.out).mono ?_
  rintro e w1 ⟨rfl, q, rfl⟩
  go_wp2
  go_ret
  exact ⟨rbool (by simp), q, rfl⟩
/-- Are all of a list among those of its class? -/
def inB (G : Nat → List Int) (j : Nat) (xs : List Int) : Bool := xs.all fun x => decide (x ∈ G j)
theorem cont_any (w : World) (bu bk B n c : Nat) (A : Option Addr) (xs : List Int) (V : Nat → Ls.Sl) (G : Nat → List Int) (j : Nat) (hj : j < 3) (hx : Ls.Box3 w bu V) (hk : w.cell? ⟨bk, 0, none⟩ = some (.int .i64 j)) (hkl : bk < w.heap.size) (hl : Ls.L3 w B V G) (hB : B ≤ w.heap.size) (hs : (G j).Pairwise (· ≤ ·)) (hn : (G j).length ≤ 1000000) (hr : Row w B A n xs) (hn2 : n ≤ 9223372036854775807) :
    Calls Tryz.prog 88 #[.slice A n c, .func (.func 89) #[] #[.pointer (some ⟨bu, 0, none⟩), .pointer (some ⟨bk, 0, none⟩)]] w fun e w' => e = .returned (.bool (!inB G j xs)) ∧ ∃ q, w' = w.drewN q := by
  by_cases h0 : n = 0
  · subst h0
    obtain rfl := hr.zero
    exact Tryz.slices_ContainsFunc_empty (α := Int) A c _ w |>.mono fun e w' h => ⟨h.1, 0, h.2⟩
  · obtain ⟨b, off, rfl, _, hc⟩ := hr.2 (by omega)
    have hl2 := hr.1
    have h := Tryz.slices_ContainsFunc (Value.int .i64) (fun x => !decide (x ∈ G j)) 89 #[.pointer (some ⟨bu, 0, none⟩), .pointer (some ⟨bk, 0, none⟩)] (enters_of Tryz.func89 (by kernel_rfl) rfl) b off n c xs w
      (fun W x hb => amongK_any w W bu bk B V G j hj x hx hk hkl hl hB hs hn hb) (by omega) hn2 (fun i hi => by rw [hc i (by omega)]; simp [List.getD, hi])
    rw [List.take_of_length_le (by omega)] at h
    have e : xs.any (fun x => !decide (x ∈ G j)) = !inB G j xs := by
      unfold inB
      rw [List.not_all_eq_any_not]
    rw [e] at h
    exact h
def amongB (n : Nat) (F : Nat → Nat → List Int) (G : Nat → List Int) : Bool := (List.range n).all fun k => (List.range 3).all fun j => inB G j (F k j)
theorem amongB_no {n k j : Nat} {F : Nat → Nat → List Int} {G : Nat → List Int} (hk : k < n) (hj : j < 3) (h : inB G j (F k j) = false) : amongB n F G = false := by
  cases e : amongB n F G
  · rfl
  · have h1 := List.all_eq_true.1 e k (List.mem_range.2 hk)
    have h2 := List.all_eq_true.1 h1 j (List.mem_range.2 hj)
    rw [h] at h2
    cases h2
theorem amongB_yes {n : Nat} {F : Nat → Nat → List Int} {G : Nat → List Int} (h : ∀ k, k < n → ∀ j, j < 3 → inB G j (F k j) = true) : amongB n F G = true :=
  List.all_eq_true.2 fun k hk => List.all_eq_true.2 fun j hj => h k (List.mem_range.1 hk) j (List.mem_range.1 hj)
section
variable (w : World) (B n c : Nat) (A : Option Addr) (U : Nat → Nat → Ls.Sl) (F : Nat → Nat → List Int) (V : Nat → Ls.Sl) (G : Nat → List Int)
set_option maxHeartbeats 2000000 in
theorem among_core (R : Bool) (hR : R = amongB n F G) (hl : Ls.LRow w B A n U F) (h3 : Ls.L3 w B V G) (hB : B ≤ w.heap.size) (hs : ∀ j, j < 3 → (G j).Pairwise (· ≤ ·)) (hn : n ≤ 2000) (hg : ∀ j, j < 3 → (G j).length ≤ 1000000) (hf : ∀ k, k < n → ∀ j, j < 3 → (F k j).length ≤ 9223372036854775807) :
    Calls Tryz.prog 50 #[.slice A n c, (.agg #[.slice (V 0).a (V 0).n (V 0).c, .slice (V 1).a (V 1).n (V 1).c, .slice (V 2).a (V 2).n (V 2).c])] w fun e w' => e = .returned (.bool R) ∧ Below w.heap.size w w' := by
  have HR := Lib.hid hR
  have HL := Lib.hid hl
  have H3 := Lib.hid h3
  have HS := Lib.hid hs
  have HG := Lib.hid hg
  have HF := Lib.hid hf
  clear hR hl h3 hs hg hf
  go_enter Tryz.func50, Tryz.ntmps50
  have X0 := Lib.hid (Ls.Box3.new w V 25)
  have B0 := Lib.hid ((Below.refl w.heap.size w).alloc (Nat.le_refl _) (.cells #[.slice (V 0).a (V 0).n (V 0).c, .slice (V 1).a (V 1).n (V 1).c, .slice (V 2).a (V 2).n (V 2).c] 25))
  go_wp2
  go_loopw [11] (fun i wr => ∃ k : Nat, k ≤ n ∧ i = .int .i64 k ∧ Hid (∀ k', k' < k → ∀ j, j < 3 → inB G j (F k' j) = true) ∧ Hid (Ls.Box3 wr w.heap.size V ∧ Below w.heap.size w wr)) (fun i _ => n - (intOf i).toNat)
  case atStart => exact ⟨0, Nat.zero_le _, rfl, Lib.hid (fun k h => absurd h (by omega)), Lib.hid ⟨X0.out, B0.out⟩⟩
  case round =>
    obtain ⟨k, hk, rfl, HK, HX⟩ := hrel
    by_cases hlt : k < n
    · obtain ⟨b, off, rfl, hbB, hc⟩ := HL.out.over HX.out.2 hB (by omega)
      obtain ⟨hcell, hl3⟩ := hc k hlt
      have c0 := hcell 0 (by decide)
      have c1 := hcell 1 (by decide)
      have c2 := hcell 2 (by decide)
      rw [Nat.add_zero] at c0
      have hbs : b < wr.heap.size := by have := HX.out.2.size; omega
      have HR3 := Lib.hid hl3
      have hwr := HX.out.2.size
      have k0 : (0 : Int) ≤ k := by omega
      have k1 : (k : Int) < n := by omega
      clear hc hcell hl3
      obtain ⟨wo, rfl⟩ : ∃ wo : World, wo = wr := ⟨_, rfl⟩
      go_wp2
      go_loopw [16] (fun i wr => ∃ j : Nat, j ≤ 3 ∧ i = .int .i64 j ∧ Hid (∀ j', j' < j → inB G j' (F k j') = true) ∧ Hid (Ls.Box3 wr w.heap.size V ∧ Below w.heap.size w wr ∧ Below wo.heap.size wo wr)) (fun i _ => 3 - (intOf i).toNat)
      case atStart => 
        refine ⟨0, by omega, rfl, Lib.hid (fun j h => absurd h (by omega)), Lib.hid ⟨HX.out.1.alloc _, HX.out.2.alloc hwr _, (Below.refl _ _).alloc (Nat.le_refl _) _⟩⟩
      case round =>
        obtain ⟨j, hj, rfl, HJ, HI⟩ := hrel
        by_cases hlt3 : j < 3
        · have hix := Ls.index_of (U k) j hlt3
          have hwr2 := HI.out.2.1.size
          have HC := Lib.hid (cont_any (wr.alloc (.cells #[.int .i64 j] 3)) w.heap.size wr.heap.size B (U k j).n (U k j).c (U k j).a (F k j) V G j hlt3 (HI.out.1.alloc _) (by simp [go_sem]) (by simp) (H3.out.over (HI.out.2.1.alloc hwr2 _) hB) (by simp; omega) (HS.out j hlt3) (HG.out j hlt3)
            ((HR3.out j hlt3).1.below ((HI.out.2.2.alloc HI.out.2.2.size _).mono (by omega))) (by have := HF.out k hlt j hlt3; have := (HR3.out j hlt3).1.1; omega))
          have J3 := Lib.hid hlt3
          have j0 : (0 : Int) ≤ j := by omega
          have j1 : (j : Int) < 3 := by omega
          go_wp2_with fail
          refine HC.out.mono ?_
          rintro e w4 ⟨rfl, q4, hw4⟩
          have HW := Lib.hid hw4
          clear hw4 hix
          have HN := Lib.hid (show Ls.Box3 w4 w.heap.size V ∧ Below w.heap.size w w4 ∧ Below wo.heap.size wo w4 by
            rw [HW.out]
            exact ⟨(HI.out.1.alloc _).drewN _, below_drawn' (HI.out.2.1.alloc hwr2 _) _, below_drawn' (HI.out.2.2.alloc HI.out.2.2.size _) _⟩)
          cases hin : inB G j (F k j)
          · have hR0 : R = false := by rw [HR.out]; exact amongB_no hlt hlt3 hin
            subst hR0
            clear hin
            go_wp2
            go_ret
            exact ⟨rfl, HN.out.2.1⟩
          · have HJ2 : Hid (∀ j', j' < j + 1 → inB G j' (F k j') = true) := Lib.hid (fun j' hj' => by
              by_cases e : j' = j
              · rw [e]; exact hin
              · exact HJ.out j' (by omega))
            clear hin
            go_wp2
            go_roundw
            case rel => exact ⟨j + 1, J3.out, by go_num, HJ2, HN⟩
            case measure => simp [intOf]; omega
        · obtain rfl : j = 3 := by omega
          have HK2 : Hid (∀ k', k' < k + 1 → ∀ j, j < 3 → inB G j (F k' j) = true) := Lib.hid (fun k' hk' j hj => by
            by_cases e : k' = k
            · rw [e]; exact HJ.out j hj
            · exact HK.out k' (by omega) j hj)
          have HX2 := Lib.hid (And.intro HI.out.1 HI.out.2.1)
          go_wp2
          go_roundw
          case rel => exact ⟨k + 1, by omega, by go_num, HK2, HX2⟩
          case measure => simp [intOf]; omega
    · obtain rfl : k = n := by omega
      have hRt : R = true := by rw [HR.out]; exact amongB_yes HK.out
      subst hRt
      go_wp2
      go_ret
      exact ⟨rfl, HX.out.2⟩
theorem among_any (hl : Ls.LRow w B A n U F) (h3 : Ls.L3 w B V G) (hB : B ≤ w.heap.size) (hs : ∀ j, j < 3 → (G j).Pairwise (· ≤ ·)) (hn : n ≤ 2000) (hg : ∀ j, j < 3 → (G j).length ≤ 1000000) (hf : ∀ k, k < n → ∀ j, j < 3 → (F k j).length ≤ 9223372036854775807) :
    Calls Tryz.prog 50 #[.slice A n c, (.agg #[.slice (V 0).a (V 0).n (V 0).c, .slice (V 1).a (V 1).n (V 1).c, .slice (V 2).a (V 2).n (V 2).c])] w fun e w' => e = .returned (.bool (amongB n F G)) ∧ Below w.heap.size w w' := among_core w B n c A U F V G _ rfl hl h3 hB hs hn hg hf
end
end Go.Proofs.YtgmkomnoiffapaaGreatDoor
end
section
namespace Go.Proofs.YtgmkomnoiffapaaGreatDoor

/-- A cell's page. -/
theorem page_of {d : Hd_} {n : Nat} {a : Int} (h : a ∈ Cl.allS d.f n) : (a / 16 - 1).toNat < n ∧ Cl.pmB (pgAt d a) = true ∧ (((pgAt d a).1 = 1 ∧ 0 ≤ (pgAt d a).2 ∧ (pgAt d a).2 ≤ 2) ∨ ((pgAt d a).1 = 2 ∧ 1 ≤ (pgAt d a).2 ∧ (pgAt d a).2 ≤ 4)) := by
  obtain ⟨c, hc, rfl⟩ := List.mem_map.1 h
  obtain ⟨_, k, j, hk, hj, hp, e, h0, h1⟩ := Cl.cell_page hc
  have hk2 : (c.1 / 16 - 1).toNat = k := by rw [e]; simp only; omega
  have e2 : pgAt d c.1 = d.f k := by unfold pgAt; rw [hk2]
  rw [e2, hk2]
  refine ⟨hk, hp, ?_⟩
  have h3 := (Cl.num_kind hp).1 (by omega)
  rcases (Cl.pmB_iff _).1 hp with h | h | h | h
  · omega
  · exact .inl h
  · exact .inr h
  · omega
theorem run_class {n : Int} (h : Cl.runErr n = 0) : Cl.classErr n = 0 := by
  unfold Cl.runErr at h
  unfold Cl.classErr
  split at h
  · omega
  · split at h
    · omega
    · next h1 h2 => rw [if_neg h1, if_neg h2]
theorem holds_cell {d : Hd_} {n : Nat} {a : Int} (h : a ∈ Cl.allS d.f n) : holdsAt d (askM d) a = cellAt d a := by
  have hp := (page_of h).2.2
  unfold holdsAt cellAt cellB askM fillsB
  rw [show d.ws.getD (a - 16).toNat 0 = wd d a from rfl, show d.f (a / 16 - 1).toNat = pgAt d a from rfl]
  generalize wd d a = x at hp ⊢
  generalize pgAt d a = p at hp ⊢
  cases hw : Hd.isWord x
  · simp
  · by_cases hu : x % 2 = 1
    · have c1 : true = true ∧ x % 2 = 1 := ⟨rfl, hu⟩
      rw [if_pos hu, if_pos c1, Bool.true_and]
      rcases hp with ⟨h1, _⟩ | ⟨h1, _⟩
      · rw [if_neg (by omega), if_pos h1]
      · rw [if_pos h1, if_neg (by omega)]
        cases hr : (Cl.runErr (nOf x) == 0)
        · simp
        · rw [run_class (by simpa using hr)]
          rfl
    · have c1 : ¬ (true = true ∧ x % 2 = 1) := fun h => hu h.2
      rw [if_neg hu, if_neg c1, Bool.true_and, Bool.true_and]
      rcases hp with ⟨h1, _⟩ | ⟨h1, _⟩ <;> rw [h1] <;> rfl
theorem all_congr {xs : List Int} {f g : Int → Bool} (h : ∀ a ∈ xs, f a = g a) : xs.all f = xs.all g := by
  induction xs with
  | nil => rfl
  | cons x xs ih => rw [List.all_cons, List.all_cons, h x (by simp), ih (fun a ha => h a (by simp [ha]))]
theorem all_holds (d : Hd_) (n : Nat) : (Cl.allS d.f n).all (holdsAt d (askM d)) = (Cl.allS d.f n).all (cellAt d) := all_congr fun _ h => holds_cell h
/-- A cell begins just where Begins tells room. -/
theorem mem_allS {f : Nat → Int × Int} {n : Nat} {a : Int} : a ∈ Cl.allS f n ↔ ¬ Cl.bg f n a = 0 := by
  constructor
  · intro h
    obtain ⟨c, hc, rfl⟩ := List.mem_map.1 h
    rw [Cl.bg_cell hc]
    have := (Cl.allL_apart f n).2 c hc
    omega
  · intro h
    have := (Cl.bg_nonneg f n a).1
    obtain ⟨c, hc, rfl⟩ := Cl.bg_some (show 0 < Cl.bg f n a by omega)
    exact List.mem_map.2 ⟨c, hc, rfl⟩
theorem word_used {d : Hd_} {a : Int} (h : cellAt d a = true) : Hd.isWord (wd d a) = true ∧ (¬ wd d a % 2 = 1 → (pgAt d a).1 = 1 ∧ wd d a = 0) := by
  unfold cellAt cellB at h
  rw [show d.ws.getD (a - 16).toNat 0 = wd d a from rfl, show d.f (a / 16 - 1).toNat = pgAt d a from rfl] at h
  split at h
  · next hh => exact ⟨hh.1, fun hn => absurd hh.2 hn⟩
  · have h2 := (Bool.and_eq_true _ _ ▸ h : _ ∧ _)
    exact ⟨h2.1, fun hn => ⟨by simpa using h2.2, Hd.isWord_even h2.1 hn⟩⟩
theorem mem_unus {d : Hd_} {n : Nat} (hall : (Cl.allS d.f n).all (cellAt d) = true) (x : Int) (j : Nat) : decide (x ∈ unus d (Cl.allS d.f n) j) = freeH d n x (j : Nat) := by
  rw [Bool.eq_iff_iff, decide_eq_true_iff]
  unfold unus freeH
  rw [show d.ws.getD (x - 16).toNat 0 = wd d x from rfl, show d.f (x / 16 - 1).toNat = pgAt d x from rfl]
  rw [List.mem_filter, mem_allS, decide_eq_true_iff]
  by_cases hb : Cl.bg d.f n x = 0
  · rw [if_pos hb]
    simp [hb]
  · rw [if_neg hb]
    have hc := List.all_eq_true.1 hall x (mem_allS.2 hb)
    have hw := (word_used hc).2
    rw [Bool.and_eq_true, decide_eq_true_iff, beq_iff_eq]
    constructor
    · rintro ⟨_, h1, h2⟩
      exact ⟨⟨(hw h1).1, h2⟩, (hw h1).2⟩
    · rintro ⟨⟨h1, h2⟩, h3⟩
      exact ⟨hb, by rw [h3]; decide, h2⟩
theorem among_free {d : Hd_} {n N : Nat} {F : Nat → Nat → List Int} (hall : (Cl.allS d.f n).all (cellAt d) = true) : amongB N F (unus d (Cl.allS d.f n)) = freeAll d n N F := by
  unfold amongB freeAll inB
  simp only [mem_unus hall]
/-- Cells rise. -/
theorem allS_lt (f : Nat → Int × Int) (n : Nat) : (Cl.allS f n).Pairwise (· < ·) := by
  unfold Cl.allS
  rw [List.pairwise_map]
  refine List.Pairwise.imp_of_mem ?_ (Cl.allL_apart f n).1
  intro c e hc he h
  have := (Cl.allL_apart f n).2 c hc
  omega
theorem unus_rise (d : Hd_) (n j : Nat) : (unus d (Cl.allS d.f n) j).Pairwise (· ≤ ·) :=
  ((allS_lt d.f n).imp fun h => Int.le_of_lt h).sublist List.filter_sublist
theorem allS_len (f : Nat → Int × Int) (n : Nat) : (Cl.allS f n).length ≤ 512 := by
  have := Cl.allS_short f n (Cl.allS f n).length
  rwa [List.take_length] at this
end Go.Proofs.YtgmkomnoiffapaaGreatDoor
end
section
namespace Go.Proofs.YtgmkomnoiffapaaGreatDoor
open Go.RowKit
set_option maxRecDepth 100000

theorem run_lcat (W : World) (base B k m c g cp : Nat) (A : Option Addr) (u U : Nat → Nat → Ls.Sl) (F : Nat → Nat → List Int) (ty : TypeId) (own : W.ownsRow base 25 3 (.slice (some ⟨g, 0, none⟩) k cp) k (lcells u k)) (hr : Ls.LRow W B A m U F) (hbase : base ≤ W.heap.size) (hk : k + m ≤ 2000) :
    ∃ g' cp' w', (Builtin.append_ #[78, 78] ty #[.slice (some ⟨g, 0, none⟩) k cp, .slice A m c]).run Tryz.prog W = .ok (.slice (some ⟨g', 0, none⟩) (k + m) cp') w' ∧
      w'.ownsRow base 25 3 (.slice (some ⟨g', 0, none⟩) (k + m) cp') (k + m) (lcells u k ++ lcells U m) ∧ W.grownBy w' (some g) ∧ g' < w'.heap.size := by
  obtain ⟨i0, hi, hz0, hz1, hz2⟩ := info_parts info_l3
  have hg := (own.lt g rfl).2
  have hkc : k ≤ cp := by
    rcases own.2 with ⟨h, _⟩ | ⟨g1, c1, cur, h, _, _, h4, _⟩
    · cases h
    · simp only [Value.slice.injEq, Option.some.injEq, Addr.mk.injEq, and_true, true_and] at h
      obtain ⟨rfl, rfl⟩ := h
      exact h4
  by_cases hn : m = 0
  · subst hn
    have hsrc : Src Tryz.prog i0.size 78 (.slice A 0 c) 0 [] W := by
      rw [hz1]
      cases A with
      | none => exact Src.ofNil _ Tryz.underlying78 c
      | some a => exact Src.ofSlice _ Tryz.underlying78 a 0 c [] rfl (by simp) (by simp)
    refine ⟨g, cp, W, run_append_nothing _ 78 78 ty 25 i0 Tryz.underlying78 hi (some ⟨g, 0, none⟩) k cp hkc _ hsrc, ?_, ⟨rfl, rfl, rfl, Nat.le_refl _, fun _ _ _ => rfl⟩, hg⟩
    rw [show lcells U 0 = [] from rfl, List.append_nil]
    exact own
  · obtain ⟨b, off, rfl, hb, hc⟩ := hr (by omega)
    obtain ⟨g', cap, w', hrun, r1, r2, r3, r4⟩ := run_append_lies (P := Tryz.prog) W 78 ty base 25 i0 _ 3 72 Tryz.underlying78 hi hz0 hz1 hz2 rfl (by decide) _ _ _ own ⟨b, off, none⟩ m c (lcells U m) (lcells_length U m) (by
      intro j v hj
      have hjn : j < m * 3 := by
        have := (List.getElem?_eq_some_iff.1 hj).1
        rwa [lcells_length] at this
      have e := lcells_at U m (j / 3) (j % 3) (by omega) (by omega)
      rw [show j / 3 * 3 + j % 3 = j by omega, hj] at e
      have hcell := (hc (j / 3) (by omega)).1 (j % 3) (by omega)
      rw [Addr.add_lit, show off + j = off + j / 3 * 3 + j % 3 by omega, hcell, e]) (by
      intro v hv
      obtain ⟨x, _, rfl⟩ := List.mem_map.1 hv
      rfl) (by omega) (by unfold maxLen; omega) (by omega) hbase _ rfl
    exact ⟨g', cap, w', hrun, r1, r2, r4⟩
theorem lrow_more {w : World} {B C n : Nat} {A : Option Addr} {u : Nat → Nat → Ls.Sl} {f : Nat → Nat → List Int} (h : Ls.LRow w B A n u f) (hB : B ≤ C) : Ls.LRow w C A n u f := fun hn => by
  obtain ⟨b, off, e, hlt, hc⟩ := h hn
  exact ⟨b, off, e, Nat.lt_of_lt_of_le hlt hB, fun i hi => ⟨(hc i hi).1, (hc i hi).2.more hB⟩⟩
structure LCatted (W : World) (base g : Nat) (g' cp' n : Nat) (cells : List Value) (w' : World) : Prop where
  own : w'.ownsRow base 25 3 (.slice (some ⟨g', 0, none⟩) n cp') n cells
  grown : W.grownBy w' (some g)
  lt : g' < w'.heap.size
theorem list_lcat {W : World} {ops : Array Oper} {rest : List Oper} {o : Oper} {a : Act} {Q : Exit → Act → World → Prop} (hgd : o.guard = none) (s x : Operand)
    (ho : o.op = .call { callee := .builtin .append, args := #[s, x], argTypes := #[78, 78] }) {base B k m c g cp : Nat} {A : Option Addr} {u U : Nat → Nat → Ls.Sl} {F : Nat → Nat → List Int}
    (hs : a.eval s = .slice (some ⟨g, 0, none⟩) k cp) (hx : a.eval x = .slice A m c) (own : W.ownsRow base 25 3 (.slice (some ⟨g, 0, none⟩) k cp) k (lcells u k)) (hr : Ls.LRow W B A m U F) (hbase : base ≤ W.heap.size) (hk : k + m ≤ 2000) {n : Nat} (hn : k + m = n)
    (hK : ∀ g' cp' w', LCatted W base g g' cp' n (lcells u k ++ lcells U m) w' → wpList Tryz.prog ops Q rest (a.put o.dst (.slice (some ⟨g', 0, none⟩) n cp')) w') : wpList Tryz.prog ops Q (o :: rest) a W := by
  subst hn
  refine wpList_plain hgd fun K hK' => ?_
  obtain ⟨g', cp', w', hrun, h2, h3, h4⟩ := run_lcat W base B k m c g cp A u U F o.type own hr hbase hk
  unfold Oper.wp execOp
  simp only [ho, resolve, invoke, builtin, Sem.run_bind, Sem.run_pure, Result.andThen_ok, List.map_toArray, List.map_cons, List.map_nil, hs, hx, hrun]
  exact hK' _ _ (hK g' cp' w' ⟨h2, h3, h4⟩)
/-- slices.Grow of nothing. -/
theorem grow_any (n : Nat) (w : World) (h0 : 0 < n) (h1 : n ≤ 2000) : Calls Tryz.prog 114 #[.slice none 0 0, .int .i64 n] w fun e w' =>
    ∃ cp, e = .returned (.slice (some ⟨w.heap.size, 0, none⟩) 0 cp) ∧ w'.ownsRow w.heap.size 25 3 (.slice (some ⟨w.heap.size, 0, none⟩) 0 cp) 0 [] ∧ Below w.heap.size w w' := by
  obtain ⟨i0, hi, hz0, hz1, hz2⟩ := info_parts info_l3
  refine (Any8.slices_Grow_grow Tryz.growL i0 _ hi hz0 (by omega) none 0 0 n [] w (Nat.le_refl _) (by omega) (by rw [hz2]; omega) (by omega) (by simp) (fun _ => rfl) (fun _ h => by cases h)).mono ?_
  rintro e w' ⟨rfl, rfl⟩
  have h3 := grownCap_ge w (0 + n) 0 25
  have h4 := grownCap_le_maxLen w (0 + n) 0 25 (by unfold maxLen; omega)
  refine ⟨_, rfl, ⟨rfl, .inr ⟨w.heap.size, _, _, rfl, Nat.le_refl _, World.alloc_heap_new _ _, Nat.zero_le _, h4, ?_, by simp⟩⟩, ((Below.refl w.heap.size w).drew.alloc (Nat.le_refl _) _)⟩
  have e3 : ∀ k, (Builtin.zeroCells (Value.agg #[.slice none 0 0, .slice none 0 0, .slice none 0 0]).cells k).size = k * 3 := fun k => size_zeroCells _ k
  rw [Array.size_append, Array.size_append, e3, e3]
  show 0 + (0 + n - 0) * 3 + (grownCap w (0 + n) 0 25 - (0 + n)) * 3 = grownCap w (0 + n) 0 25 * 3
  omega
def LOut (w : World) (U : Nat → Nat → Ls.Sl) (F : Nat → Nat → List Int) (n : Nat) (e : Ending) (w' : World) : Prop := ∃ A c, e = .returned (.slice A n c) ∧ Ls.LRow w' w'.heap.size A n U F ∧ Below w.heap.size w w'
section
variable (w : World) (bb g B m c0 c1 c2 : Nat) (A : Option Addr) (u : Nat → Ls.Sl) (f : Nat → List Int) (U : Nat → Nat → Ls.Sl) (F : Nat → Nat → List Int)
theorem concat_any (h0 : w.cell? ⟨bb, 0, none⟩ = some (.slice (some ⟨g, 0, none⟩) 1 c1)) (h1 : w.cell? ⟨bb, 1, none⟩ = some (.slice A m c2)) (hbb : bb < w.heap.size) (hr1 : Ls.LRow w B (some ⟨g, 0, none⟩) 1 (fun _ => u) (fun _ => f)) (hr : Ls.LRow w B A m U F) (hB : B ≤ w.heap.size) (hm : m ≤ 1000) :
    Calls Tryz.prog 87 #[.slice (some ⟨bb, 0, none⟩) 2 c0] w (LOut w (ahead u U) (ahead f F) (1 + m)) := by
  have H1 := Lib.hid hr1
  have H2 := Lib.hid hr
  have HGR := Lib.hid (fun W => by
    have := grow_any (1 + m) W (by omega) (by omega)
    rw [show ((1 + m : Nat) : Int) = 1 + (m : Int) by omega] at this
    exact this)
  have d1 : decide ((1 : Int) + m < 0) = false := by simp; omega
  have d2 : ¬ ((1 : Int) + m < 0) := by omega
  clear hr1 hr
  go_enter Tryz.func87, Tryz.ntmps87
  go_wp2
  refine wp_loop_rounds 3 ?_
  rw [rounds_succ]
  go_wp2
  rw [rounds_succ]
  go_wp2
  rw [rounds_succ]
  go_wp2_with fail
  refine (HGR.out w).mono ?_
  rintro e w1 ⟨cp, rfl, hown, hb1⟩
  have x0 := (hb1.cell (p := ⟨bb, 0, none⟩) hbb).trans h0
  have x1 := (hb1.cell (p := ⟨bb, 1, none⟩) hbb).trans h1
  have hs1 := hb1.size
  have C1 := Lib.hid h1
  have own1 : w1.ownsRow w.heap.size 25 3 (.slice (some ⟨w.heap.size, 0, none⟩) 0 cp) 0 (lcells (fun _ => Ls.noSl) 0) := hown
  have O1 := Lib.hid own1
  have B1 := Lib.hid hb1
  have R1 := Lib.hid (H1.out.below (hb1.mono hB))
  clear hown hb1 own1 d1 d2 h0 h1
  go_wp2
  refine wp_loop_rounds 3 ?_
  rw [rounds_succ]
  go_wp2_with (at_builtin; refine list_lcat rfl (.tmp 31) (.tmp 32) rfl rfl rfl O1.out R1.out hs1 (by omega) (n := 1) rfl ?_; intro g2 cp2 w2 hc2; have O2 := Lib.hid hc2.own; have hb2 := B1.out.grown hc2.grown hs1 (fun k hk => by cases hk; exact Nat.le_refl _); have z1 := (hb2.cell (p := ⟨bb, 1, none⟩) hbb).trans C1.out; have hs2 := hb2.size; have B2 := Lib.hid hb2; clear hc2 hb2)
  have own2 : w2.ownsRow w.heap.size 25 3 (.slice (some ⟨g2, 0, none⟩) 1 cp2) 1 (lcells (fun _ => u) 1) := O2.out
  have O3 := Lib.hid own2
  have R2 := Lib.hid (H2.out.below (B2.out.mono hB))
  clear own2 x0 x1 O2
  rw [rounds_succ]
  go_wp2_with (at_builtin; refine list_lcat rfl (.tmp 31) (.tmp 32) rfl rfl rfl O3.out R2.out hs2 (by omega) (n := 1 + m) rfl ?_; intro g3 cp3 w3 hc3; have C3 := Lib.hid hc3; clear hc3)
  rw [rounds_succ]
  go_wp2
  go_ret
  have hg2 := (O3.out.lt g2 rfl).1
  have hb3 := B2.out.grown C3.out.grown hs2 (fun k hk => by cases hk; exact hg2)
  have own := C3.out.own
  rw [← lcells_ahead] at own
  refine ⟨_, _, rfl, lrow_of own C3.out.lt fun i hi => ?_, hb3⟩
  match i, hi with
  | 0, _ =>
    obtain ⟨_, _, _, _, hc⟩ := H1.out (by omega)
    exact ((hc 0 (by omega)).2.below (hb3.mono hB)).more (by have := hb3.size; omega)
  | k + 1, hk =>
    obtain ⟨_, _, _, _, hc⟩ := H2.out (by omega)
    exact ((hc k (by omega)).2.below (hb3.mono hB)).more (by have := hb3.size; omega)
end
theorem told_any (s : Hs) (d : Hd_) (w : World) (A : Option Addr) (m c : Nat) (U : Nat → Nat → Ls.Sl) (F : Nat → Nat → List Int) (hp : Hp w w.heap.size s d) (hl : Ls.LRow w w.heap.size A m U F) (hm : m ≤ 1000) :
    Calls Tryz.prog 49 #[(.agg #[.slice s.w.a s.w.n s.w.c, .slice s.p.a s.p.n s.p.c, .slice (s.u 0).a (s.u 0).n (s.u 0).c, .slice (s.u 1).a (s.u 1).n (s.u 1).c, .slice (s.u 2).a (s.u 2).n (s.u 2).c, .slice s.c.a s.c.n s.c.c]), .slice A m c] w (LOut w (ahead s.u U) (ahead d.F F) (1 + m)) := by
  have HP := Lib.hid hp.free
  have HL := Lib.hid hl
  clear hp hl
  obtain ⟨w2, hw2⟩ : ∃ w2, w2 = (w.alloc (.cells #[.slice s.w.a s.w.n s.w.c, .slice s.p.a s.p.n s.p.c, .slice (s.u 0).a (s.u 0).n (s.u 0).c, .slice (s.u 1).a (s.u 1).n (s.u 1).c, .slice (s.u 2).a (s.u 2).n (s.u 2).c, .slice s.c.a s.c.n s.c.c] 28)).alloc (.cells #[.slice (s.u 0).a (s.u 0).n (s.u 0).c, .slice (s.u 1).a (s.u 1).n (s.u 1).c, .slice (s.u 2).a (s.u 2).n (s.u 2).c] 25) := ⟨_, rfl⟩
  have hb2 : Below w.heap.size w w2 := by rw [hw2]; exact ((Below.refl _ _).alloc (Nat.le_refl _) _).alloc (by simp) _
  have hs2 : w2.heap.size = w.heap.size + 1 + 1 := by rw [hw2]; simp
  have hr1 : Ls.LRow w2 w2.heap.size (some ⟨w.heap.size + 1, 0, none⟩) 1 (fun _ => s.u) (fun _ => d.F) := fun _ => ⟨_, 0, rfl, by omega, fun i hi => ⟨fun j hj => by
    obtain rfl : i = 0 := by omega
    match j, hj with
    | 0, _ => rw [hw2]; simp [go_sem]
    | 1, _ => rw [hw2]; simp [go_sem]
    | 2, _ => rw [hw2]; simp [go_sem], (HP.out.below hb2).more hb2.size⟩⟩
  have R1 := Lib.hid hr1
  have B2 := Lib.hid hb2
  have HW2 := Lib.hid hw2
  have HS2 := Lib.hid hs2
  clear hr1 hb2 hw2 hs2
  go_enter Tryz.func49, Tryz.ntmps49
  go_wp2_with fail
  rw [← HW2.out]
  have b3 := (Below.refl w2.heap.size w2).alloc (Nat.le_refl _) (.cells #[.slice (some ⟨w.heap.size + 1, 0, none⟩) 1 1, .slice A m c] 78)
  rw [show w.heap.size + 1 + 1 = w2.heap.size from HS2.out.symm]
  refine (concat_any _ w2.heap.size (w.heap.size + 1) w2.heap.size m 2 1 c A s.u d.F U F (by simp [go_sem]) (by simp [go_sem]) (by simp) (R1.out.below b3) (lrow_more (HL.out.below (B2.out.trans (b3.mono B2.out.size))) B2.out.size) (by simp) hm).mono ?_
  rintro e w4 ⟨A', c', rfl, hl4, hb4⟩
  have H4 := Lib.hid (And.intro hl4 (B2.out.trans ((b3.trans (hb4.mono b3.size)).mono B2.out.size)))
  clear hl4 hb4 b3
  go_wp2
  go_ret
  exact ⟨A', c', rfl, H4.out.1, H4.out.2⟩
end Go.Proofs.YtgmkomnoiffapaaGreatDoor
end
section
namespace Go.Proofs.YtgmkomnoiffapaaGreatDoor
open Go.RowKit
set_option maxRecDepth 100000

theorem JM_start (n₀ : Nat) (w w2 : World) (d : Hd_) (M₀ : Nat → Prop) (hb : Below n₀ w w2) (hn : n₀ ≤ w2.heap.size) (hM : ∀ k, M₀ k → k < w2.heap.size) :
    JM n₀ w2.heap.size w d M₀ [] (w2.alloc (.cells #[.slice none 0 0, .slice none 0 0, .slice none 0 0] 25)) := by
  have R0 : Ls.Res n₀ w w2 (fun _ => none) := ⟨hb, (fun _ _ h => by cases h), (fun _ _ _ _ h => by cases h)⟩
  have R1 := (R0.add hn (Below.refl _ w2) 0 (Ls.tOwn n₀ Ls.noSl (unus d [])) ⟨fun j _ => World.ownsRow_nil _ _ _ _, fun _ _ _ _ _ _ _ h => by cases h⟩ (by rintro b ⟨j, x, _, h, _⟩; cases h)).boxed hn Ls.noSl 1
  refine ⟨_, Ls.noSl, ⟨⟨R1, ?_, Ls.upd_same _ _ _, by simp; omega⟩, fun r t hr => ?_, fun r t hr b hb hM1 => ?_⟩⟩
  · rw [Ls.upd_other _ _ (by decide), Ls.upd_same]
  · by_cases e1 : r = 1
    · exact .inr e1
    · rw [Ls.upd_other _ _ e1] at hr
      by_cases e0 : r = 0
      · exact .inl e0
      · rw [Ls.upd_other _ _ e0] at hr
        cases hr
  · by_cases e1 : r = 1
    · subst e1
      rw [Ls.upd_same] at hr
      cases hr
      have := hM b hM1
      have e : b = w2.heap.size := hb
      omega
    · rw [Ls.upd_other _ _ e1] at hr
      by_cases e0 : r = 0
      · subst e0
        rw [Ls.upd_same] at hr
        cases hr
        obtain ⟨j, x, _, h, _⟩ := hb
        cases h
      · rw [Ls.upd_other _ _ e0] at hr
        cases hr
theorem asks_may (n₀ bu : Nat) (w : World) (d : Hd_) (n : Nat) : Asks 47 #[.pointer (some ⟨bu, 0, none⟩)] n₀ d (askM d) (Cl.allS d.f n) (JM n₀ bu w d) := by
  intro M pre a W hpre hw hJ hz hfit
  have hp := (page_of (hpre.subset (by simp) : a ∈ Cl.allS d.f n)).2.2
  have hl := hpre.length_le
  have hl2 := allS_len d.f n
  rw [List.length_append] at hl
  have hn : n₀ ≤ W.heap.size := by obtain ⟨R, V, h⟩ := hJ; exact h.lst.big
  by_cases h1 : wd d a % 2 = 1
  · have e : askM d a = fillsB (nOf (wd d a)) (pgAt d a) := if_pos h1
    rw [e]
    exact mayK_used n₀ bu w d M pre a _ _ W rfl h1 hJ hn hz
  · by_cases h2 : (pgAt d a).1 = 2
    · have e : askM d a = false := by rw [askM, if_neg h1, h2]; rfl
      rw [e]
      exact mayK_large n₀ bu w d M pre a _ _ W h1 h2 hn
    · have e : askM d a = true := by rw [askM, if_neg h1]; simp [h2]
      rw [e]
      rcases (show (pgAt d a).2 = 0 ∨ (pgAt d a).2 = 1 ∨ (pgAt d a).2 = 2 by omega) with h3 | h3 | h3
      · exact mayK_free0 n₀ bu w d M pre a _ _ W rfl rfl h1 h2 h3 hJ hfit (by omega)
      · exact mayK_free1 n₀ bu w d M pre a _ _ W rfl rfl h1 h2 h3 hJ hfit (by omega)
      · exact mayK_free2 n₀ bu w d M pre a _ _ W rfl rfl h1 h2 h3 hJ hfit (by omega)
theorem mayH_no {s : Hs} {d : Hd_} {m : Nat} {F : Nat → Nat → List Int} (h : firstB s d = false) : mayH s d m F = false := by simp [mayH, h]
section
variable (s : Hs) (d : Hd_) (A : Option Addr) (m c : Nat) (U : Nat → Nat → Ls.Sl) (F : Nat → Nat → List Int) (w : World)
theorem pmay_first (hp : Hp w w.heap.size s d) (hwn : s.w.n ≤ 4000) (hpn : s.p.n ≤ 1000) (hcn : s.c.n ≤ 100000) (hf : firstB s d = false) :
    Calls Tryz.prog 14 #[(.agg #[.slice s.w.a s.w.n s.w.c, .slice s.p.a s.p.n s.p.c, .slice (s.u 0).a (s.u 0).n (s.u 0).c, .slice (s.u 1).a (s.u 1).n (s.u 1).c, .slice (s.u 2).a (s.u 2).n (s.u 2).c, .slice s.c.a s.c.n s.c.c]), .slice A m c] w fun e w' => e = .returned (.bool false) ∧ Below w.heap.size w w' := by
  have HP := Lib.hid hp
  have HF := Lib.hid hf
  clear hp hf
  go_enter Tryz.func14, Tryz.ntmps14
  go_wp2_with fail
  have hb0 := (Below.refl w.heap.size w).alloc (Nat.le_refl _) (.cells #[.slice s.w.a s.w.n s.w.c, .slice s.p.a s.p.n s.p.c, .slice (s.u 0).a (s.u 0).n (s.u 0).c, .slice (s.u 1).a (s.u 1).n (s.u 1).c, .slice (s.u 2).a (s.u 2).n (s.u 2).c, .slice s.c.a s.c.n s.c.c] 28)
  refine (sized_any s d _ (HP.out.next hb0) hwn hpn hcn).mono ?_
  rw [HF.out]
  rintro e w1 ⟨rfl, hb1⟩
  have HB := Lib.hid (hb0.trans (hb1.mono hb0.size))
  clear hb0 hb1
  go_wp2
  go_ret
  exact ⟨rfl, HB.out⟩
set_option maxHeartbeats 1000000 in
theorem pmay_rest (R : Bool) (hp : Hp w w.heap.size s d) (hl : Ls.LRow w w.heap.size A m U F) (hm : m ≤ 1000) (hz : Cl.Sz w) (hwn : s.w.n ≤ 4000) (hpn : s.p.n ≤ 1000) (hcn : s.c.n ≤ 100000) (hf : firstB s d = true) (hlen : (Ls.allOf (ahead d.F F) (1 + m)).length ≤ 2000000)
    (hR : R = ((Cl.allS d.f s.p.n).all (holdsAt d (askM d)) && (amongB (1 + m) (ahead d.F F) (unus d (Cl.allS d.f s.p.n)) && decide (Ls.allOf (ahead d.F F) (1 + m)).Nodup))) :
    Calls Tryz.prog 14 #[(.agg #[.slice s.w.a s.w.n s.w.c, .slice s.p.a s.p.n s.p.c, .slice (s.u 0).a (s.u 0).n (s.u 0).c, .slice (s.u 1).a (s.u 1).n (s.u 1).c, .slice (s.u 2).a (s.u 2).n (s.u 2).c, .slice s.c.a s.c.n s.c.c]), .slice A m c] w fun e w' => e = .returned (.bool R) ∧ Below w.heap.size w w' := by
  have HP := Lib.hid hp
  have HF := Lib.hid hf
  have HL := Lib.hid hl
  have HZ := Lib.hid hz
  have HN := Lib.hid hlen
  have HR := Lib.hid hR
  have hz0 := hz.pos
  clear hp hf hl hz hlen hR
  go_enter Tryz.func14, Tryz.ntmps14
  go_wp2_with fail
  have hb0 := (Below.refl w.heap.size w).alloc (Nat.le_refl _) (.cells #[.slice s.w.a s.w.n s.w.c, .slice s.p.a s.p.n s.p.c, .slice (s.u 0).a (s.u 0).n (s.u 0).c, .slice (s.u 1).a (s.u 1).n (s.u 1).c, .slice (s.u 2).a (s.u 2).n (s.u 2).c, .slice s.c.a s.c.n s.c.c] 28)
  refine (sized_any s d _ (HP.out.next hb0) hwn hpn hcn).mono ?_
  rw [HF.out]
  rintro e w1 ⟨rfl, hb1⟩
  have bx1 := (HBox.new w s 28).next hb1
  have B1 := Lib.hid (hb0.trans (hb1.mono hb0.size))
  have X1 := Lib.hid (bx1.next ((Below.refl w1.heap.size w1).alloc (Nat.le_refl _) (.cells #[.slice none 0 0, .slice none 0 0, .slice none 0 0] 25)))
  have q0 := X1.out.c0
  have q1 := X1.out.c1
  have q2 := X1.out.c2
  have q3 := X1.out.c3
  have q4 := X1.out.c4
  have q5 := X1.out.c5
  have ql := X1.out.lt
  have hs1 := bx1.lt
  clear hb0 hb1 bx1
  go_wp2_with fail
  have bu := B1.out.alloc (by omega) (.cells #[.slice none 0 0, .slice none 0 0, .slice none 0 0] 25)
  refine (every_any s d _ w.heap.size (fun k => k = w.heap.size) _ _ (askM d) (JM w.heap.size w1.heap.size w d) (HP.out.below bu) (by simp; omega) hz0 (HZ.out.over bu hz0) HF.out (enters_of Tryz.func47 (by kernel_rfl) rfl) (bides_JM _ _ _ _)
    (JM_start w.heap.size w w1 d _ B1.out (by omega) (by rintro k rfl; omega)) (by rintro k rfl; simp; omega) (asks_may _ _ _ _ _)).mono ?_
  rintro e w4 ⟨rfl, hk4, hj4⟩
  have BU := Lib.hid (bu.trans hk4.1)
  have X4 := Lib.hid (X1.out.same (hk4.2 _ rfl X1.out.lt) hk4.1.size)
  have HJ := Lib.hid hj4
  clear hk4 hj4 bu q0 q1 q2 q3 q4 q5 ql
  have q0 := X4.out.c0
  have q1 := X4.out.c1
  have q2 := X4.out.c2
  have q3 := X4.out.c3
  have q4 := X4.out.c4
  have q5 := X4.out.c5
  have ql := X4.out.lt
  generalize (Cl.allS d.f s.p.n).all (holdsAt d (askM d)) = b1 at HR HJ ⊢
  go_wp2_with fail
  refine (told_any s d w4 A m c U F ((HP.out.below BU.out).more BU.out.size) (lrow_more (HL.out.below BU.out) BU.out.size) hm).mono ?_
  rintro e w5 ⟨A5, c5, rfl, hl5, hb5⟩
  have L5 := Lib.hid hl5
  have B5 := Lib.hid (BU.out.trans (hb5.mono BU.out.size))
  have B45 := Lib.hid hb5
  clear hl5 hb5 q0 q1 q2 q3 q4 q5 ql
  cases b1
  · have hR0 : R = false := by rw [HR.out]; rfl
    subst hR0
    go_wp2
    go_ret
    exact ⟨rfl, B5.out⟩
  obtain ⟨M, R', V, hG⟩ := HJ.out rfl
  have bx := hG.lst.boxed.next B45.out
  have c0 := bx.cell 0 (by decide)
  have c1 := bx.cell 1 (by decide)
  have c2 := bx.cell 2 (by decide)
  have cl := bx.lt
  have HV := Lib.hid ((hG.lst.owns.l3.below B45.out).more B45.out.size)
  clear hG bx
  go_wp2_with fail
  refine (among_any w5 w5.heap.size (1 + m) c5 A5 _ _ V _ L5.out HV.out (Nat.le_refl _) (fun j _ => unus_rise d _ j) (by omega) (fun j _ => Nat.le_trans (unus_len d _ j) (by have := allS_len d.f s.p.n; omega)) (fun k hk j hj => by have := Ls.part_len (ahead d.F F) hk hj; have := HN.out; omega)).mono ?_
  rintro e w6 ⟨rfl, hb6⟩
  have L6 := Lib.hid (lrow_more (L5.out.below hb6) hb6.size)
  have B6 := Lib.hid (B5.out.trans (hb6.mono B5.out.size))
  clear hb6 c0 c1 c2 cl
  generalize amongB (1 + m) (ahead d.F F) (unus d (Cl.allS d.f s.p.n)) = b2 at HR ⊢
  cases b2
  · have hR0 : R = false := by rw [HR.out]; rfl
    subst hR0
    go_wp2
    go_ret
    exact ⟨rfl, B6.out⟩
  have hR1 : R = decide (Ls.allOf (ahead d.F F) (1 + m)).Nodup := by rw [HR.out]; rfl
  have HR1 := Lib.hid hR1
  clear hR1
  go_wp2_with fail
  refine (Ls.apart_any w6.heap.size A5 (1 + m) c5 _ _ w6 L6.out (Nat.le_refl _) (by omega) HN.out).mono ?_
  rw [← HR1.out]
  rintro e w7 ⟨rfl, hb7⟩
  have B7 := Lib.hid (B6.out.trans (hb7.mono B6.out.size))
  clear hb7
  go_wp2
  go_ret
  exact ⟨rfl, B7.out⟩
theorem pmay_any (hp : Hp w w.heap.size s d) (hl : Ls.LRow w w.heap.size A m U F) (hm : m ≤ 1000) (hz : Cl.Sz w) (hwn : s.w.n ≤ 4000) (hpn : s.p.n ≤ 1000) (hcn : s.c.n ≤ 100000) (hlen : (Ls.allOf (ahead d.F F) (1 + m)).length ≤ 2000000) :
    Calls Tryz.prog 14 #[(.agg #[.slice s.w.a s.w.n s.w.c, .slice s.p.a s.p.n s.p.c, .slice (s.u 0).a (s.u 0).n (s.u 0).c, .slice (s.u 1).a (s.u 1).n (s.u 1).c, .slice (s.u 2).a (s.u 2).n (s.u 2).c, .slice s.c.a s.c.n s.c.c]), .slice A m c] w fun e w' => e = .returned (.bool (mayH s d m F)) ∧ Below w.heap.size w w' := by
  cases hf : firstB s d
  · rw [mayH_no hf]
    exact pmay_first s d A m c w hp hwn hpn hcn hf
  · refine pmay_rest s d A m c U F w _ hp hl hm hz hwn hpn hcn hf hlen ?_
    rw [all_holds, mayH, hf, Bool.true_and]
    cases ha : (Cl.allS d.f s.p.n).all (cellAt d)
    · rfl
    · rw [among_free ha]
end
end Go.Proofs.YtgmkomnoiffapaaGreatDoor
end
section
namespace Go.Proofs.YtgmkomnoiffapaaGreatDoor
open Go.RowKit
set_option maxRecDepth 100000

def noCaches : Nat → Nat → List Int := fun _ _ => []
theorem lrow_none (w : World) (B : Nat) : ∃ U, Ls.LRow w B none 0 U noCaches := ⟨fun _ => Ls.noSl, fun h => absurd h (by omega)⟩
/-- A heap without caches may be. -/
def mayB0 (s : Hs) (d : Hd_) : Bool := mayH s d 0 noCaches
theorem may0_word {s : Hs} {d : Hd_} {a : Int} (h : mayB0 s d = true) (hb : ¬ Cl.bg d.f s.p.n a = 0) : s.w.n = 16 * s.p.n ∧ 16 ≤ a ∧ a < 16 + 16 * (s.p.n : Int) ∧ Hd.isWord (d.ws.getD (a - 16).toNat 0) = true := by
  unfold mayB0 mayH firstB at h
  simp only [Bool.and_eq_true, decide_eq_true_eq] at h
  obtain ⟨⟨_, hpm, hw, _⟩, hall, _⟩ := h
  have hin := Classical.byContradiction fun hn => hb (Cl.bg_no (f := d.f) (n := s.p.n) (a := a) hn)
  have hpos : 0 < Cl.bg d.f s.p.n a := by have := (Cl.bg_nonneg d.f s.p.n a).1; omega
  obtain ⟨c, hc, rfl⟩ := Cl.bg_some hpos
  have h1 := List.all_eq_true.1 hall c.1 (List.mem_map.2 ⟨c, hc, rfl⟩)
  refine ⟨hw, hin.2.1, hin.2.2, ?_⟩
  unfold cellAt cellB at h1
  split at h1
  · next hh => exact hh.1
  · exact (Bool.and_eq_true _ _ ▸ h1).1
def HeadOut (w : World) (V : Value) (er : Int) (e : Ending) (w' : World) : Prop := e = .returned (.tuple #[V, .int .i64 er]) ∧ Below w.heap.size w w'
def noHead : Value := .agg #[.bool false, .bool false, .bool false, .int .i64 0, .int .i64 0, .int .i64 0]
/-- The box of a head. -/
structure XBox (W : World) (b : Nat) : Prop where
  cell : ∀ k, k < 6 → W.cell? ⟨b, k, none⟩ = some (if k < 3 then .bool false else .int .i64 0)
  free : ∀ k, W.frozen? ⟨b, k, none⟩ = false
  lt : b < W.heap.size
theorem XBox.new (w : World) (t : TypeId) : XBox (w.alloc (.cells #[.bool false, .bool false, .bool false, .int .i64 0, .int .i64 0, .int .i64 0] t)) w.heap.size := by
  refine ⟨fun k hk => ?_, fun k => by simp [go_sem], by simp⟩
  match k, hk with
  | 0, _ => simp [go_sem]
  | 1, _ => simp [go_sem]
  | 2, _ => simp [go_sem]
  | 3, _ => simp [go_sem]
  | 4, _ => simp [go_sem]
  | 5, _ => simp [go_sem]
theorem XBox.next {W W' : World} {b : Nat} (h : XBox W b) (hb : Below W.heap.size W W') : XBox W' b :=
  ⟨fun k hk => (hb.cell (p := ⟨b, k, none⟩) h.lt).trans (h.cell k hk), fun k => (hb.frozen (p := ⟨b, k, none⟩) h.lt).trans (h.free k), Nat.lt_of_lt_of_le h.lt hb.size⟩
/-- A head is stored to its box. -/
def put6 (w : World) (b : Nat) (v0 v1 v2 v3 v4 v5 : Value) : World :=
  (((((w.setCell ⟨b, 0, none⟩ v0).setCell ⟨b, 1, none⟩ v1).setCell ⟨b, 2, none⟩ v2).setCell ⟨b, 3, none⟩ v3).setCell ⟨b, 4, none⟩ v4).setCell ⟨b, 5, none⟩ v5
theorem below_put6 {B : Nat} {a w : World} (h : Below B a w) {b : Nat} (hb : B ≤ b) (v0 v1 v2 v3 v4 v5 : Value) : Below B a (put6 w b v0 v1 v2 v3 v4 v5) :=
  (((((h.setCell (p := ⟨b, 0, none⟩) hb _).setCell (p := ⟨b, 1, none⟩) hb _).setCell (p := ⟨b, 2, none⟩) hb _).setCell (p := ⟨b, 3, none⟩) hb _).setCell (p := ⟨b, 4, none⟩) hb _).setCell (p := ⟨b, 5, none⟩) hb _
section
variable (s : Hs) (d : Hd_) (a : Int) (w : World)
end
end Go.Proofs.YtgmkomnoiffapaaGreatDoor
end
section
namespace Go.Proofs.YtgmkomnoiffapaaGreatDoor
open Go.RowKit
set_option maxRecDepth 100000

def usedF (d : Hd_) (pre : List Int) : List Int := pre.filter fun a => decide (wd d a % 2 = 1)
structure UGath (n₀ bu : Nat) (xs : List Int) (M : Nat → Prop) (W : World) (s : Ls.Sl) : Prop where
  box : Boxed W bu 22 (.slice s.a s.n s.c)
  free : ¬ M bu
  low : n₀ ≤ bu
  row : W.ownsRow n₀ 3 1 (.slice s.a s.n s.c) s.n (xs.map (Value.int .i64))
  off : ∀ g, (Value.slice s.a s.n s.c).ownBlock = some g → ¬ M g
theorem UGath.bide {n₀ bu : Nat} {xs : List Int} {M M' : Nat → Prop} {W W' : World} {s : Ls.Sl} (h : UGath n₀ bu xs M W s) (hs : ∀ k, k < W.heap.size → ¬ M k → W'.heap[k]? = W.heap[k]?) (hm : ∀ k, M' k → M k ∨ (W.heap.size ≤ k ∧ k < W'.heap.size)) : UGath n₀ bu xs M' W' s := by
  have no : ∀ k, k < W.heap.size → ¬ M k → ¬ M' k := fun k hk hn h => by
    rcases hm k h with h | h
    · exact hn h
    · omega
  exact ⟨(hs _ h.box.lt h.free).trans h.box, no _ h.box.lt h.free, h.low, Ls.World.ownsRow.same h.row (fun g hg hlt => hs g hlt (h.off g hg)), fun g hg => no g (h.row.lt g hg).2 (h.off g hg)⟩
section
variable (n₀ bu : Nat) (d : Hd_) (M : Nat → Prop) (pre : List Int) (a x : Int) (p : Int × Int) (W : World)
end
end Go.Proofs.YtgmkomnoiffapaaGreatDoor
end
section
namespace Go.Proofs.YtgmkomnoiffapaaGreatDoor
open Go.RowKit
set_option maxRecDepth 100000

/-- What the calls ask of a heap's size, and of its words. -/
structure Fine (s : Hs) (d : Hd_) : Prop where
  wn : s.w.n ≤ 4000
  pn : s.p.n ≤ 200
  cn : s.c.n ≤ 100000
  hv : ∀ i, -9223372036854775808 ≤ d.ws.getD i 0 ∧ d.ws.getD i 0 ≤ 9223372036854775807
  len : (Ls.upTo d.F 3).length ≤ 2000000
theorem pmay0_any (s : Hs) (d : Hd_) (w : World) (hp : Hp w w.heap.size s d) (hz : Cl.Sz w) (hf : Fine s d) :
    Calls Tryz.prog 14 #[(.agg #[.slice s.w.a s.w.n s.w.c, .slice s.p.a s.p.n s.p.c, .slice (s.u 0).a (s.u 0).n (s.u 0).c, .slice (s.u 1).a (s.u 1).n (s.u 1).c, .slice (s.u 2).a (s.u 2).n (s.u 2).c, .slice s.c.a s.c.n s.c.c]), .slice none 0 0] w fun e w' => e = .returned (.bool (mayB0 s d)) ∧ Below w.heap.size w w' := by
  obtain ⟨U, hU⟩ := lrow_none w w.heap.size
  refine pmay_any s d none 0 0 U noCaches w hp hU (by omega) hz hf.wn (by have := hf.pn; omega) hf.cn ?_
  rw [show Ls.allOf (ahead d.F noCaches) (1 + 0) = Ls.upTo d.F 3 by simp [Ls.allOf, ahead]]
  exact hf.len
theorem mayH_all {s : Hs} {d : Hd_} {m : Nat} {F : Nat → Nat → List Int} (h : mayH s d m F = true) : firstB s d = true ∧ (Cl.allS d.f s.p.n).all (cellAt d) = true ∧ freeAll d s.p.n (1 + m) (ahead d.F F) = true ∧ (Ls.allOf (ahead d.F F) (1 + m)).Nodup := by
  unfold mayH at h
  simp only [Bool.and_eq_true, decide_eq_true_eq] at h
  exact ⟨h.1, h.2.1, h.2.2.1, h.2.2.2⟩
def usedL (s : Hs) (d : Hd_) : List Int := if mayB0 s d = true then usedF d (Cl.allS d.f s.p.n) else []
section
variable (s : Hs) (d : Hd_) (w : World)
end
end Go.Proofs.YtgmkomnoiffapaaGreatDoor
end
section
namespace Go.Proofs.YtgmkomnoiffapaaGreatDoor
open Go.RowKit
set_option maxRecDepth 100000

theorem put6_size (w : World) (b : Nat) (v0 v1 v2 v3 v4 v5 : Value) : (put6 w b v0 v1 v2 v3 v4 v5).heap.size = w.heap.size := by simp [put6, World.setCell]
theorem put6_alloc {W : World} {b : Nat} (h : XBox W b) (v0 v1 v2 v3 v4 v5 : Value) (o : Obj) :
    ((put6 W b v0 v1 v2 v3 v4 v5).alloc o).cell? ⟨b, 0, none⟩ = some v0 ∧ ((put6 W b v0 v1 v2 v3 v4 v5).alloc o).cell? ⟨b, 1, none⟩ = some v1 ∧ ((put6 W b v0 v1 v2 v3 v4 v5).alloc o).cell? ⟨b, 2, none⟩ = some v2 ∧
    ((put6 W b v0 v1 v2 v3 v4 v5).alloc o).cell? ⟨b, 3, none⟩ = some v3 ∧ ((put6 W b v0 v1 v2 v3 v4 v5).alloc o).cell? ⟨b, 4, none⟩ = some v4 ∧ ((put6 W b v0 v1 v2 v3 v4 v5).alloc o).cell? ⟨b, 5, none⟩ = some v5 := by
  have h0 := h.cell 0 (by decide)
  have h1 := h.cell 1 (by decide)
  have h2 := h.cell 2 (by decide)
  have h3 := h.cell 3 (by decide)
  have h4 := h.cell 4 (by decide)
  have h5 := h.cell 5 (by decide)
  have hl := h.lt
  refine ⟨?_, ?_, ?_, ?_, ?_, ?_⟩ <;> (rw [World.cell?_alloc_past _ _ _ (by rw [put6_size]; exact hl)]; simp [put6, go_sem, h0, h1, h2, h3, h4, h5])

section
variable (s : Hs) (d : Hd_) (a : Int) (w : World)
end
end Go.Proofs.YtgmkomnoiffapaaGreatDoor
end
section
namespace Go.Proofs.YtgmkomnoiffapaaGreatDoor
open Go.RowKit
set_option maxRecDepth 100000

section
variable (s : Hs) (d : Hd_) (a : Int) (w : World)
theorem phead_bad (hp : Hp w w.heap.size s d) (hz : Cl.Sz w) (hf : Fine s d) (hm : mayB0 s d = false) :
    Calls Tryz.prog 24 #[(.agg #[.slice s.w.a s.w.n s.w.c, .slice s.p.a s.p.n s.p.c, .slice (s.u 0).a (s.u 0).n (s.u 0).c, .slice (s.u 1).a (s.u 1).n (s.u 1).c, .slice (s.u 2).a (s.u 2).n (s.u 2).c, .slice s.c.a s.c.n s.c.c]), .int .i64 a] w (HeadOut w noHead 1) := by
  have HP := Lib.hid hp
  have HZ := Lib.hid hz
  have hz0 := hz.pos
  have HM := Lib.hid hm
  have HF := Lib.hid hf
  clear hp hz hm hf
  go_enter Tryz.func24, Tryz.ntmps24
  go_wp2_with fail
  have b0 := (Below.refl w.heap.size w).alloc (Nat.le_refl _) (.cells #[.slice s.w.a s.w.n s.w.c, .slice s.p.a s.p.n s.p.c, .slice (s.u 0).a (s.u 0).n (s.u 0).c, .slice (s.u 1).a (s.u 1).n (s.u 1).c, .slice (s.u 2).a (s.u 2).n (s.u 2).c, .slice s.c.a s.c.n s.c.c] 28)
  have b1 := b0.alloc (by simp) (.cells #[.bool false, .bool false, .bool false, .int .i64 0, .int .i64 0, .int .i64 0] 56)
  refine (pmay0_any s d _ ((HP.out.below b1).more b1.size) (HZ.out.over b1 hz0) HF.out).mono ?_
  rw [HM.out]
  rintro e w1 ⟨rfl, hb1⟩
  have x0 := XBox.new (w.alloc (.cells #[.slice s.w.a s.w.n s.w.c, .slice s.p.a s.p.n s.p.c, .slice (s.u 0).a (s.u 0).n (s.u 0).c, .slice (s.u 1).a (s.u 1).n (s.u 1).c, .slice (s.u 2).a (s.u 2).n (s.u 2).c, .slice s.c.a s.c.n s.c.c] 28)) 56
  rw [World.size_alloc] at x0
  have X := x0.next hb1
  have BW := Lib.hid (b1.trans (hb1.mono b1.size))
  have y0 := X.cell 0 (by decide)
  have y1 := X.cell 1 (by decide)
  have y2 := X.cell 2 (by decide)
  have y3 := X.cell 3 (by decide)
  have y4 := X.cell 4 (by decide)
  have y5 := X.cell 5 (by decide)
  simp only [Nat.reduceLT, if_true, if_false] at y0 y1 y2 y3 y4 y5
  have z0 := X.free 0
  have z1 := X.free 1
  have z2 := X.free 2
  have z3 := X.free 3
  have z4 := X.free 4
  have z5 := X.free 5
  have zl := X.lt
  clear x0 X hb1 b0 b1
  go_wp2
  refine bodyPost_ret (v := .tuple #[noHead, .int .i64 1]) ?_ rfl ?_
  rotate_left
  · exact ⟨rfl, below_put6 BW.out (b := w.heap.size + 1) (by omega) _ _ _ _ _ _⟩
  simp [results, Tryz.results24, go_sem, noHead, y0, y1, y2, y3, y4, y5]
theorem phead_none (hp : Hp w w.heap.size s d) (hz : Cl.Sz w) (hf : Fine s d) (hm : mayB0 s d = true) (hb : Cl.bg d.f s.p.n a = 0) :
    Calls Tryz.prog 24 #[(.agg #[.slice s.w.a s.w.n s.w.c, .slice s.p.a s.p.n s.p.c, .slice (s.u 0).a (s.u 0).n (s.u 0).c, .slice (s.u 1).a (s.u 1).n (s.u 1).c, .slice (s.u 2).a (s.u 2).n (s.u 2).c, .slice s.c.a s.c.n s.c.c]), .int .i64 a] w (HeadOut w noHead 3) := by
  have HP := Lib.hid hp
  have HZ := Lib.hid hz
  have hz0 := hz.pos
  have HM := Lib.hid hm
  have HF := Lib.hid hf
  have HB := Lib.hid hb
  clear hp hz hm hf hb
  go_enter Tryz.func24, Tryz.ntmps24
  go_wp2_with fail
  have b0 := (Below.refl w.heap.size w).alloc (Nat.le_refl _) (.cells #[.slice s.w.a s.w.n s.w.c, .slice s.p.a s.p.n s.p.c, .slice (s.u 0).a (s.u 0).n (s.u 0).c, .slice (s.u 1).a (s.u 1).n (s.u 1).c, .slice (s.u 2).a (s.u 2).n (s.u 2).c, .slice s.c.a s.c.n s.c.c] 28)
  have b1 := b0.alloc (by simp) (.cells #[.bool false, .bool false, .bool false, .int .i64 0, .int .i64 0, .int .i64 0] 56)
  have x0 := XBox.new (w.alloc (.cells #[.slice s.w.a s.w.n s.w.c, .slice s.p.a s.p.n s.p.c, .slice (s.u 0).a (s.u 0).n (s.u 0).c, .slice (s.u 1).a (s.u 1).n (s.u 1).c, .slice (s.u 2).a (s.u 2).n (s.u 2).c, .slice s.c.a s.c.n s.c.c] 28)) 56
  rw [World.size_alloc] at x0
  have g0 := (HBox.new w s 28).next ((Below.refl _ _).alloc (Nat.le_refl _) (.cells #[.bool false, .bool false, .bool false, .int .i64 0, .int .i64 0, .int .i64 0] 56))
  refine (pmay0_any s d _ ((HP.out.below b1).more b1.size) (HZ.out.over b1 hz0) HF.out).mono ?_
  rw [show mayB0 _ d = true from HM.out]
  rintro e w1 ⟨rfl, hb1⟩
  have N1 := Lib.hid (HNow.mk (d := d) (g0.next hb1) (b1.trans (hb1.mono b1.size)) (HP.out.below (b1.trans (hb1.mono b1.size))))
  have X1 := Lib.hid (x0.next hb1)
  have q1 := N1.out.box.c1
  have ql := N1.out.box.lt
  try dsimp only at q1
  clear x0 g0 hb1 b0 b1
  go_wp2_with fail
  refine (Cl.room_any w.heap.size s.p.a s.p.n s.p.c d.f a _ (by have := HF.out.pn; omega) (HZ.out.over N1.out.bel hz0) N1.out.hp.pages N1.out.bel.size).mono ?_
  rw [Cl.bg_room, HB.out]
  rintro e w2 ⟨rfl, hb2⟩
  have X := X1.out.next hb2
  have BW := Lib.hid (N1.out.next hb2).bel
  clear q1 ql X1 N1 hb2
  have y0 := X.cell 0 (by decide)
  have y1 := X.cell 1 (by decide)
  have y2 := X.cell 2 (by decide)
  have y3 := X.cell 3 (by decide)
  have y4 := X.cell 4 (by decide)
  have y5 := X.cell 5 (by decide)
  simp only [Nat.reduceLT, if_true, if_false] at y0 y1 y2 y3 y4 y5
  have z0 := X.free 0
  have z1 := X.free 1
  have z2 := X.free 2
  have z3 := X.free 3
  have z4 := X.free 4
  have z5 := X.free 5
  have zl := X.lt
  clear X
  go_wp2
  refine bodyPost_ret (v := .tuple #[noHead, .int .i64 3]) ?_ rfl ?_
  rotate_left
  · exact ⟨rfl, below_put6 BW.out (b := w.heap.size + 1) (by omega) _ _ _ _ _ _⟩
  simp [results, Tryz.results24, go_sem, noHead, y0, y1, y2, y3, y4, y5]
set_option maxHeartbeats 1000000 in
theorem phead_is (hp : Hp w w.heap.size s d) (hz : Cl.Sz w) (hf : Fine s d) (hm : mayB0 s d = true) (hb : ¬ Cl.bg d.f s.p.n a = 0) (i : Nat) (ha : a - 16 = i) (x : Int) (hx : x = d.ws.getD i 0) (V : Value) (er : Int) (hV0 : x = 0 → V = noHead ∧ er = 3) (hV1 : ¬ x = 0 → V = headOf x ∧ er = 0) :
    Calls Tryz.prog 24 #[(.agg #[.slice s.w.a s.w.n s.w.c, .slice s.p.a s.p.n s.p.c, .slice (s.u 0).a (s.u 0).n (s.u 0).c, .slice (s.u 1).a (s.u 1).n (s.u 1).c, .slice (s.u 2).a (s.u 2).n (s.u 2).c, .slice s.c.a s.c.n s.c.c]), .int .i64 a] w (HeadOut w V er) := by
  have hmw := may0_word hm hb
  have hi : i < s.w.n := by omega
  have hwd : Hd.isWord x = true := by
    have := hmw.2.2.2
    rwa [show (a - 16).toNat = i by omega, ← hx] at this
  have hwm : wordsB s.w.n = true := by
    have := (mayH_all hm).1
    unfold firstB at this
    simp only [Bool.and_eq_true, decide_eq_true_eq] at this
    exact this.1
  have hpn : s.p.n ≤ 1000 := by have := hf.pn; omega
  have ha16 : 16 ≤ a := hmw.2.1
  have han : a < 16 + s.w.n := by omega
  rcases s with ⟨⟨aw, nw, cw⟩, ⟨pp, np, cp⟩, su, ⟨ac, nc, cc⟩⟩
  dsimp only at hi hpn hb hwm han ⊢
  obtain ⟨bw, ow, rfl, hbw, hcw⟩ := hp.words.2 (show 0 < nw by omega)
  have hw0 := hcw i hi
  rw [← hx] at hw0
  have HV0 := Lib.hid hV0
  have HV1 := Lib.hid hV1
  have HP := Lib.hid hp
  have HZ := Lib.hid hz
  have hz0 := hz.pos
  have HM := Lib.hid hm
  have HF := Lib.hid hf
  have hbz : (Cl.bg d.f np a == 0) = false := by simp [hb]
  have HX := Lib.hid hwd
  have HGET := Lib.hid (fun (W : World) (hW : Row W w.heap.size (some ⟨bw, ow, none⟩) nw d.ws) => by
    have := Ar.get_ok w.heap.size (some ⟨bw, ow, none⟩) nw cw d.ws a W hwm ha16 han hW
    rw [show d.ws.getD (a - 16).toNat 0 = x by rw [hx, show (a - 16).toNat = i by omega]] at this
    exact this)
  have i0 : (0 : Int) ≤ i := by omega
  have i1 : (i : Int) < nw := by omega
  clear hp hz hm hf hb hcw hx hmw hwd hV0 hV1 hwm ha16 han ha
  go_enter Tryz.func24, Tryz.ntmps24
  go_wp2_with fail
  have b0 := (Below.refl w.heap.size w).alloc (Nat.le_refl _) (.cells #[.slice (some ⟨bw, ow, none⟩) nw cw, .slice pp np cp, .slice (su 0).a (su 0).n (su 0).c, .slice (su 1).a (su 1).n (su 1).c, .slice (su 2).a (su 2).n (su 2).c, .slice ac nc cc] 28)
  have b1 := b0.alloc (by simp) (.cells #[.bool false, .bool false, .bool false, .int .i64 0, .int .i64 0, .int .i64 0] 56)
  have x0 := XBox.new (w.alloc (.cells #[.slice (some ⟨bw, ow, none⟩) nw cw, .slice pp np cp, .slice (su 0).a (su 0).n (su 0).c, .slice (su 1).a (su 1).n (su 1).c, .slice (su 2).a (su 2).n (su 2).c, .slice ac nc cc] 28)) 56
  rw [World.size_alloc] at x0
  have g0 := (HBox.new w ⟨⟨some ⟨bw, ow, none⟩, nw, cw⟩, ⟨pp, np, cp⟩, su, ⟨ac, nc, cc⟩⟩ 28).next ((Below.refl _ _).alloc (Nat.le_refl _) (.cells #[.bool false, .bool false, .bool false, .int .i64 0, .int .i64 0, .int .i64 0] 56))
  refine (pmay0_any ⟨⟨some ⟨bw, ow, none⟩, nw, cw⟩, ⟨pp, np, cp⟩, su, ⟨ac, nc, cc⟩⟩ d _ ((HP.out.below b1).more b1.size) (HZ.out.over b1 hz0) HF.out).mono ?_
  rw [show mayB0 _ d = true from HM.out]
  rintro e w1 ⟨rfl, hb1⟩
  have N1 := Lib.hid (HNow.mk (d := d) (g0.next hb1) (b1.trans (hb1.mono b1.size)) (HP.out.below (b1.trans (hb1.mono b1.size))))
  have X1 := Lib.hid (x0.next hb1)
  have q1 := N1.out.box.c1
  have ql := N1.out.box.lt
  try dsimp only at q1
  clear x0 g0 hb1 b0 b1
  go_wp2_with fail
  refine (Cl.room_any w.heap.size pp np cp d.f a _ hpn (HZ.out.over N1.out.bel hz0) N1.out.hp.pages N1.out.bel.size).mono ?_
  rw [Cl.bg_room]
  rintro e w2 ⟨rfl, hb2⟩
  have X2 := Lib.hid (X1.out.next hb2)
  have N2 := Lib.hid (N1.out.next hb2)
  have q0 := N2.out.box.c0
  have ql2 := N2.out.box.lt
  dsimp only at q0
  clear q1 ql N1 hb2 hw0 X1
  go_wp2_with fail
  refine (HGET.out _ N2.out.hp.words).mono ?_
  rintro e w3 ⟨rfl, rfl⟩
  go_wp2_with fail
  refine (unpack_any x _).mono ?_
  rw [headOf_yes HX.out, HX.out]
  rintro e w3 ⟨rfl, hb3⟩
  have X := X2.out.next hb3
  have BW := Lib.hid (N2.out.next hb3).bel
  have X3 := Lib.hid X
  have z0 := X.free 0
  have z1 := X.free 1
  have z2 := X.free 2
  have z3 := X.free 3
  have z4 := X.free 4
  have z5 := X.free 5
  have y0 := X.cell 0 (by decide)
  have y1 := X.cell 1 (by decide)
  have y2 := X.cell 2 (by decide)
  have y3 := X.cell 3 (by decide)
  have y4 := X.cell 4 (by decide)
  have y5 := X.cell 5 (by decide)
  simp only [Nat.reduceLT, if_true, if_false] at y0 y1 y2 y3 y4 y5
  have zl := X.lt
  clear X hb3 q0 hbz X2
  by_cases hz : x = 0
  · obtain ⟨rfl, rfl⟩ := HV0.out hz
    have hu : decide (x % 2 = 1) = false := by rw [hz]; decide
    rw [hu]
    clear hz hu
    have KK := Lib.hid (put6_alloc (W := w3) (b := w.heap.size + 1) X3.out (.bool false) (.bool false) (.bool false) (.int .i64 0) (.int .i64 0) (.int .i64 0) (.cells #[.bool false, .bool (decide (x / 2 % 2 = 1)), .bool (decide (x / 4 % 2 = 1)), .int .i64 (nOf x), .int .i64 (x / 1024 % 4194304), .int .i64 (x / 4294967296)] 56))
    go_wp2
    refine bodyPost_ret (v := .tuple #[noHead, .int .i64 3]) ?_ rfl ?_
    rotate_left
    · exact ⟨rfl, (below_put6 BW.out (b := w.heap.size + 1) (by omega) (.bool false) (.bool false) (.bool false) (.int .i64 0) (.int .i64 0) (.int .i64 0)).alloc (by rw [put6_size]; exact BW.out.size) _⟩
    · obtain ⟨k0, k1, k2, k3, k4, k5⟩ := KK.out
      unfold put6 at k0 k1 k2 k3 k4 k5
      clear y0 y1 y2 y3 y4 y5
      simp [results, Tryz.results24, go_sem, noHead, k0, k1, k2, k3, k4, k5]
  · obtain ⟨rfl, rfl⟩ := HV1.out hz
    have hu : decide (x % 2 = 1) = true := decide_eq_true (Classical.byContradiction fun h => hz (Hd.isWord_even HX.out h))
    rw [hu]
    have HU := Lib.hid hu
    clear hz hu
    have KK := Lib.hid (put6_alloc (W := w3) (b := w.heap.size + 1) X3.out (.bool true) (.bool (decide (x / 2 % 2 = 1))) (.bool (decide (x / 4 % 2 = 1))) (.int .i64 (nOf x)) (.int .i64 (x / 1024 % 4194304)) (.int .i64 (x / 4294967296)) (.cells #[.bool true, .bool (decide (x / 2 % 2 = 1)), .bool (decide (x / 4 % 2 = 1)), .int .i64 (nOf x), .int .i64 (x / 1024 % 4194304), .int .i64 (x / 4294967296)] 56))
    go_wp2
    refine bodyPost_ret (v := .tuple #[.agg #[.bool true, .bool (decide (x / 2 % 2 = 1)), .bool (decide (x / 4 % 2 = 1)), .int .i64 (nOf x), .int .i64 (x / 1024 % 4194304), .int .i64 (x / 4294967296)], .int .i64 0]) ?_ rfl ?_
    rotate_left
    · rw [headOf_yes HX.out, HU.out]
      exact ⟨rfl, (below_put6 BW.out (b := w.heap.size + 1) (by omega) (.bool true) (.bool (decide (x / 2 % 2 = 1))) (.bool (decide (x / 4 % 2 = 1))) (.int .i64 (nOf x)) (.int .i64 (x / 1024 % 4194304)) (.int .i64 (x / 4294967296))).alloc (by rw [put6_size]; exact BW.out.size) _⟩
    · obtain ⟨k0, k1, k2, k3, k4, k5⟩ := KK.out
      unfold put6 at k0 k1 k2 k3 k4 k5
      clear y0 y1 y2 y3 y4 y5
      simp [results, Tryz.results24, go_sem, k0, k1, k2, k3, k4, k5]
end
/-- What Head tells. -/
def headE (s : Hs) (d : Hd_) (a : Int) : Int := if mayB0 s d = false then 1 else if Cl.bg d.f s.p.n a = 0 ∨ wd d a = 0 then 3 else 0
def headV (s : Hs) (d : Hd_) (a : Int) : Value := if headE s d a = 0 then headOf (wd d a) else noHead
theorem head_split (s : Hs) (d : Hd_) (a : Int) : (mayB0 s d = false ∧ headE s d a = 1 ∧ headV s d a = noHead) ∨ (mayB0 s d = true ∧ Cl.bg d.f s.p.n a = 0 ∧ headE s d a = 3 ∧ headV s d a = noHead) ∨ (mayB0 s d = true ∧ ¬ Cl.bg d.f s.p.n a = 0 ∧ (wd d a = 0 → headV s d a = noHead ∧ headE s d a = 3) ∧ (¬ wd d a = 0 → headV s d a = headOf (wd d a) ∧ headE s d a = 0)) := by
  cases hm : mayB0 s d
  · have e : headE s d a = 1 := by simp [headE, hm]
    exact .inl ⟨rfl, e, by simp [headV, e]⟩
  · by_cases hb : Cl.bg d.f s.p.n a = 0
    · have e : headE s d a = 3 := by simp [headE, hm, hb]
      exact .inr (.inl ⟨rfl, hb, e, by simp [headV, e]⟩)
    · refine .inr (.inr ⟨rfl, hb, fun h => ?_, fun h => ?_⟩)
      · have e : headE s d a = 3 := by simp [headE, hm, h]
        exact ⟨by simp [headV, e], e⟩
      · have e : headE s d a = 0 := by simp [headE, hm, h, hb]
        exact ⟨by simp [headV, e], e⟩
theorem phead_any (s : Hs) (d : Hd_) (a : Int) (w : World) (hp : Hp w w.heap.size s d) (hz : Cl.Sz w) (hf : Fine s d) : Calls Tryz.prog 24 #[(.agg #[.slice s.w.a s.w.n s.w.c, .slice s.p.a s.p.n s.p.c, .slice (s.u 0).a (s.u 0).n (s.u 0).c, .slice (s.u 1).a (s.u 1).n (s.u 1).c, .slice (s.u 2).a (s.u 2).n (s.u 2).c, .slice s.c.a s.c.n s.c.c]), .int .i64 a] w (HeadOut w (headV s d a) (headE s d a)) := by
  rcases head_split s d a with ⟨hm, e1, e2⟩ | ⟨hm, hb, e1, e2⟩ | ⟨hm, hb, e1, e2⟩
  · rw [e1, e2]; exact phead_bad s d a w hp hz hf hm
  · rw [e1, e2]; exact phead_none s d a w hp hz hf hm hb
  · have := may0_word hm hb
    exact phead_is s d a w hp hz hf hm hb (a - 16).toNat (by omega) _ rfl _ _ e1 e2
end Go.Proofs.YtgmkomnoiffapaaGreatDoor
end
section
namespace Go.Proofs.YtgmkomnoiffapaaGreatDoor
open Go.RowKit
set_option maxRecDepth 100000

theorem head_form (s : Hs) (d : Hd_) (a : Int) : ∃ (u o e : Bool) (n b m : Int), headV s d a = .agg #[.bool u, .bool o, .bool e, .int .i64 n, .int .i64 b, .int .i64 m] := by
  unfold headV headOf noHead
  split
  · split <;> exact ⟨_, _, _, _, _, _, rfl⟩
  · exact ⟨_, _, _, _, _, _, rfl⟩
/-- A head in its box. -/
structure X6 (W : World) (b : Nat) (x0 x1 x2 : Bool) (x3 x4 x5 : Int) : Prop where
  c0 : W.cell? ⟨b, 0, none⟩ = some (.bool x0)
  c1 : W.cell? ⟨b, 1, none⟩ = some (.bool x1)
  c2 : W.cell? ⟨b, 2, none⟩ = some (.bool x2)
  c3 : W.cell? ⟨b, 3, none⟩ = some (.int .i64 x3)
  c4 : W.cell? ⟨b, 4, none⟩ = some (.int .i64 x4)
  c5 : W.cell? ⟨b, 5, none⟩ = some (.int .i64 x5)
  lt : b < W.heap.size
theorem X6.new (w : World) (x0 x1 x2 : Bool) (x3 x4 x5 : Int) (t : TypeId) : X6 (w.alloc (.cells #[.bool x0, .bool x1, .bool x2, .int .i64 x3, .int .i64 x4, .int .i64 x5] t)) w.heap.size x0 x1 x2 x3 x4 x5 := by
  refine ⟨?_, ?_, ?_, ?_, ?_, ?_, by simp⟩ <;> simp [go_sem]
theorem X6.next {W W' : World} {b : Nat} {x0 x1 x2 : Bool} {x3 x4 x5 : Int} (h : X6 W b x0 x1 x2 x3 x4 x5) (hb : Below W.heap.size W W') : X6 W' b x0 x1 x2 x3 x4 x5 :=
  ⟨(hb.cell (p := ⟨b, 0, none⟩) h.lt).trans h.c0, (hb.cell (p := ⟨b, 1, none⟩) h.lt).trans h.c1, (hb.cell (p := ⟨b, 2, none⟩) h.lt).trans h.c2, (hb.cell (p := ⟨b, 3, none⟩) h.lt).trans h.c3, (hb.cell (p := ⟨b, 4, none⟩) h.lt).trans h.c4, (hb.cell (p := ⟨b, 5, none⟩) h.lt).trans h.c5, Nat.lt_of_lt_of_le h.lt hb.size⟩
end Go.Proofs.YtgmkomnoiffapaaGreatDoor
end
section
namespace Go.Proofs.YtgmkomnoiffapaaGreatDoor
open Go.RowKit
set_option maxRecDepth 100000

theorem used_fits {d : Hd_} {n : Nat} {a : Int} (hb : ¬ Cl.bg d.f n a = 0) (hc : cellAt d a = true) (hu : wd d a % 2 = 1) : 1 ≤ nOf (wd d a) ∧ nOf (wd d a) < Cl.bg d.f n a := by
  have hp := (page_of (mem_allS.2 hb)).2.2
  have hw := (word_used hc).1
  have e : Cl.bg d.f n a = Cl.pg (pgAt d a) a := by
    unfold Cl.bg at hb ⊢
    split at hb
    · next h => rw [if_pos h]; rfl
    · exact absurd rfl hb
  rw [e] at hb ⊢
  clear e
  unfold cellAt cellB at hc
  rw [show d.ws.getD (a - 16).toNat 0 = wd d a from rfl, show d.f (a / 16 - 1).toNat = pgAt d a from rfl, if_pos ⟨hw, hu⟩] at hc
  generalize nOf (wd d a) = k at hc ⊢
  generalize pgAt d a = p at hc hp hb ⊢
  obtain ⟨p1, p2⟩ := p
  simp only at hc hp hb ⊢
  have h2 := (Bool.and_eq_true _ _ ▸ hc : _ ∧ _)
  have hk : 1 ≤ k ∧ k ≤ 63 := by
    have h3 : Cl.classErr k = 0 := by simpa using h2.1
    unfold Cl.classErr at h3
    split at h3
    · omega
    · split at h3 <;> omega
  have h4 := h2.2
  clear hc h2
  rcases hp with ⟨rfl, g0, g1⟩ | ⟨rfl, g0, g1⟩
  · rw [if_pos rfl] at h4
    have h5 : Cl.classOf k = p2 := by simpa using h4
    have e : Cl.pg (1, p2) a = Cl.wordsOf p2 := by
      unfold Cl.pg at hb ⊢
      simp only at hb ⊢
      split at hb
      · next h => omega
      · next h =>
        rw [if_neg h]
        split at hb
        · next h' => rw [if_pos h']
        · exact absurd rfl hb
    rw [e]
    refine ⟨hk.1, ?_⟩
    unfold Cl.classOf at h5
    split at h5
    · omega
    · split at h5
      · subst h5; simp [Cl.wordsOf]; omega
      · split at h5
        · subst h5; simp [Cl.wordsOf]; omega
        · split at h5
          · subst h5; simp [Cl.wordsOf]; omega
          · omega
  · rw [if_neg (by decide)] at h4
    have h5 := (Bool.and_eq_true _ _ ▸ h4 : _ ∧ _)
    have h6 : Cl.runErr k = 0 := by simpa using h5.1
    have h7 : Cl.runOf k = p2 := by simpa using h5.2
    have e : Cl.pg (2, p2) a = 16 * p2 := by
      unfold Cl.pg at hb ⊢
      simp only at hb ⊢
      split at hb
      · next h => rw [if_pos h]
      · split at hb
        · next h => omega
        · exact absurd rfl hb
    rw [e]
    refine ⟨hk.1, ?_⟩
    unfold Cl.runErr at h6
    unfold Cl.runOf at h7
    split at h7
    · split at h6
      · omega
      · split at h6
        · omega
        · split at h6 <;> omega
    · split at h7
      · omega
      · split at h7
        · omega
        · split at h7 <;> omega
/-- Head tells of an object just where one is used. -/
theorem used_head {s : Hs} {d : Hd_} (hm : mayB0 s d = true) (a : Int) :
    (a ∈ usedL s d ∧ headE s d a = 0 ∧ (∃ o e b m, headV s d a = .agg #[.bool true, .bool o, .bool e, .int .i64 (nOf (wd d a)), .int .i64 b, .int .i64 m]) ∧ 1 ≤ nOf (wd d a) ∧ nOf (wd d a) < Cl.bg d.f s.p.n a) ∨ (¬ a ∈ usedL s d ∧ headE s d a = 3) := by
  have hmem : a ∈ usedL s d ↔ (¬ Cl.bg d.f s.p.n a = 0 ∧ wd d a % 2 = 1) := by
    unfold usedL usedF
    rw [if_pos hm, List.mem_filter, mem_allS, decide_eq_true_iff]
  have hE : headE s d a = if Cl.bg d.f s.p.n a = 0 ∨ wd d a = 0 then 3 else 0 := by
    unfold headE
    rw [if_neg (by rw [hm]; decide)]
  by_cases hb : Cl.bg d.f s.p.n a = 0
  · exact Or.inr ⟨fun h => (hmem.1 h).1 hb, by rw [hE, if_pos (Or.inl hb)]⟩
  · have hc := List.all_eq_true.1 (mayH_all hm).2.1 a (mem_allS.2 hb)
    obtain ⟨hw, h0⟩ := word_used hc
    by_cases hu : wd d a % 2 = 1
    · have hE0 : headE s d a = 0 := by rw [hE, if_neg (by omega)]
      have e2 : headV s d a = .agg #[.bool true, .bool (decide (wd d a / 2 % 2 = 1)), .bool (decide (wd d a / 4 % 2 = 1)), .int .i64 (nOf (wd d a)), .int .i64 (wd d a / 1024 % 4194304), .int .i64 (wd d a / 4294967296)] := by
        unfold headV
        rw [if_pos hE0, headOf_yes hw, show decide (wd d a % 2 = 1) = true from decide_eq_true hu]
      exact Or.inl ⟨hmem.2 ⟨hb, hu⟩, hE0, ⟨_, _, _, _, e2⟩, used_fits hb hc hu⟩
    · exact Or.inr ⟨fun h => hu (hmem.1 h).2, by rw [hE, if_pos (Or.inr (h0 hu).2)]⟩
theorem used_in {s : Hs} {d : Hd_} {a : Int} (h : a ∈ usedL s d) : 16 ≤ a ∧ a < 16 + (s.w.n : Int) := by
  unfold usedL usedF at h
  split at h
  · next hm =>
    have hb := mem_allS.1 (List.mem_filter.1 h).1
    have := may0_word hm hb
    omega
  · simp at h
/-- A walk through rising numbers: n of them are behind. -/
structure Upon (xs : List Int) (k : Nat) (t : Int) : Prop where
  le : k ≤ xs.length
  lo : ∀ i, i < k → xs.getD i 0 < t
  hi : ∀ i, k ≤ i → i < xs.length → t ≤ xs.getD i 0
theorem Upon.no {xs : List Int} {k : Nat} {t : Int} (h : Upon xs k t) (hn : ¬ t ∈ xs) : Upon xs k (t + 1) := ⟨h.le, fun i hi => by have := h.lo i hi; omega, fun i h1 h2 => by
  have h3 := h.hi i h1 h2
  have h4 : ¬ xs.getD i 0 = t := fun e => hn (e ▸ getD_mem h2)
  omega⟩
theorem Upon.yes {xs : List Int} {k : Nat} {t : Int} (h : Upon xs k t) (hr : xs.Pairwise (· < ·)) (hn : t ∈ xs) : k < xs.length ∧ xs.getD k 0 = t ∧ Upon xs (k + 1) (t + 1) := by
  obtain ⟨i, hi, e⟩ := List.mem_iff_getElem.1 hn
  have e' : xs.getD i 0 = t := by simp [List.getD, hi, e]
  have hki : k ≤ i := Nat.le_of_not_lt fun hlt => by have := h.lo i hlt; omega
  have hk : k < xs.length := by omega
  have hrise : ∀ p q, p < q → q < xs.length → xs.getD p 0 < xs.getD q 0 := fun p q hpq hq => by
    have := List.pairwise_iff_getElem.1 hr p q (by omega) hq hpq
    simpa [List.getD, hq, show p < xs.length by omega] using this
  have hk2 := h.hi k (Nat.le_refl _) hk
  have hik : i = k := by
    by_cases e2 : i = k
    · exact e2
    · have := hrise k i (by omega) hi
      omega
  subst hik
  exact ⟨hi, e', hi, fun j hj => by
    by_cases e2 : j = i
    · subst e2; omega
    · have := h.lo j (by omega); omega, fun j h1 h2 => by
    have := hrise i j (by omega) h2
    omega⟩
theorem Upon.all {xs : List Int} {k : Nat} {t : Int} (h : Upon xs k t) (ht : ∀ x ∈ xs, x < t) : k = xs.length := by
  have := h.le
  by_cases e : k = xs.length
  · exact e
  · have h1 := h.hi k (Nat.le_refl _) (by omega)
    have h2 := ht _ (getD_mem (show k < xs.length by omega))
    omega
end Go.Proofs.YtgmkomnoiffapaaGreatDoor
end
section
namespace Go.Proofs.YtgmkomnoiffapaaGreatDoor
open Go.RowKit Go.Sort
set_option maxRecDepth 100000

/-- Is a heap whole, with caches? -/
def wholeH (s : Hs) (d : Hd_) (m : Nat) (F : Nat → Nat → List Int) : Bool := mayH s d m F && (Cl.allS d.f s.p.n).all fun a => !(wd d a == 0) || decide (a ∈ Ls.allOf (ahead d.F F) (1 + m))
section
variable (n₀ bf : Nat) (ys : List Int) (d : Hd_) (M : Nat → Prop) (pre pre' : List Int) (a x : Int) (p : Int × Int) (W : World)
end
theorem own_less' {w : World} {b b' n : Nat} {v : Value} {xs : List Value} (h : w.ownsRow b 3 1 v n xs) (hb : b' ≤ b) : w.ownsRow b' 3 1 v n xs :=
  ⟨h.1, h.2.imp id fun ⟨g, cap, cur, e, hg, r⟩ => ⟨g, cap, cur, e, Nat.le_trans hb hg, r⟩⟩
section
variable (s : Hs) (d : Hd_) (A : Option Addr) (m c : Nat) (U : Nat → Nat → Ls.Sl) (F : Nat → Nat → List Int) (w : World)
end
end Go.Proofs.YtgmkomnoiffapaaGreatDoor
end
section
namespace Go.Proofs.YtgmkomnoiffapaaGreatDoor
open Go.RowKit
set_option maxRecDepth 100000

theorem info_page : (Tryz.prog.info? 81).map (fun i => (i.zero, i.size, i.bytes)) = some (some (.agg #[.int .i64 0, .int .i64 0]), 2, 16) := by kernel_rfl
theorem info_boolT : (Tryz.prog.info? 4).map (fun i => (i.zero, i.size, i.bytes)) = some (some (.bool false), 1, 1) := by kernel_rfl
def zPages (n : Nat) : Obj := .cells (madeCells #[.int .i64 0, .int .i64 0] (n * 2)) 81
def zBools (n : Nat) : Obj := .cells (madeCells #[.bool false] n) 4
theorem make_pages (n : Nat) (h : n ≤ 1000) (w : World) : (Instr.makeSlice 23 (.int .i64 (n : Int)) (.int .i64 (n : Int))).run Tryz.prog w = .ok (.slice (some ⟨w.heap.size, 0, none⟩) n n) (w.alloc (zPages n)) := by
  obtain ⟨i0, hi, hz0, hz1, hz2⟩ := info_parts info_page
  have := run_make (P := Tryz.prog) w 23 81 i0 _ Tryz.underlying23 hi hz0 .i64 .i64 n n (by omega) (Int.le_refl _) (by rw [hz2]; omega) (by omega)
  rw [hz1] at this
  unfold zPages
  simpa [Value.cells] using this
theorem make_bools (n : Nat) (h : n ≤ 1000) (w : World) : (Instr.makeSlice 26 (.int .i64 (n : Int)) (.int .i64 (n : Int))).run Tryz.prog w = .ok (.slice (some ⟨w.heap.size, 0, none⟩) n n) (w.alloc (zBools n)) := by
  obtain ⟨i0, hi, hz0, hz1, hz2⟩ := info_parts info_boolT
  have := run_make (P := Tryz.prog) w 26 4 i0 _ Tryz.underlying26 hi hz0 .i64 .i64 n n (by omega) (Int.le_refl _) (by rw [hz2]; omega) (by omega)
  rw [hz1] at this
  unfold zBools
  simpa [Value.cells] using this
/-- Pages that are free; cards that are clean. -/
theorem pages_made (w : World) (n : Nat) : Cl.PRow (w.alloc (zPages n)) (w.heap.size + 1) (some ⟨w.heap.size, 0, none⟩) n (fun _ => (0, 0)) := fun _ => ⟨w.heap.size, 0, rfl, by omega, fun i hi => by
  have h0 : i * 2 < n * 2 := by omega
  have h1 : i * 2 + 1 < n * 2 := by omega
  constructor
  · simp [zPages, World.cell?_alloc_at _ _ _ _ rfl, madeCells, h0]
  · simp [zPages, World.cell?_alloc_at _ _ _ _ rfl, madeCells, h1]⟩
theorem cards_made (w : World) (n : Nat) : BRow (w.alloc (zBools n)) (w.heap.size + 1) (some ⟨w.heap.size, 0, none⟩) n (fun _ => false) := fun _ => ⟨w.heap.size, 0, rfl, by omega, fun i hi => by
  simp [zBools, World.cell?_alloc_at _ _ _ _ rfl, madeCells, hi, Nat.mod_one]⟩
theorem pages_in (V : World) (o : Obj) (n s : Nat) (hs : V.heap.size = s) : Cl.PRow (((V.alloc (zPages n)).alloc o).drew) (((V.alloc (zPages n)).alloc o).drew).heap.size (some ⟨s, 0, none⟩) n (fun _ => (0, 0)) := by
  subst hs
  exact ((pages_made V n).below ((Below.refl _ _).alloc (by simp) o)).more (by simp [World.drew])
theorem pages_in' (V : World) (o : Obj) (n s : Nat) (hs : V.heap.size = s) : Cl.PRow (((V.alloc o).alloc (zPages n)).drew) (((V.alloc o).alloc (zPages n)).drew).heap.size (some ⟨s + 1, 0, none⟩) n (fun _ => (0, 0)) := by
  subst hs
  have h := pages_made (V.alloc o) n
  rw [World.size_alloc] at h
  exact h.more (by simp [World.drew])
theorem cards_in (V : World) (o : Obj) (n s : Nat) (hs : V.heap.size = s) : BRow (((V.alloc (zBools n)).alloc o).drew) (((V.alloc (zBools n)).alloc o).drew).heap.size (some ⟨s, 0, none⟩) n (fun _ => false) := by
  subst hs
  exact ((cards_made V n).below ((Below.refl _ _).alloc (by simp) o)).more (by simp [World.drew])
theorem cards_in' (V : World) (o : Obj) (n s : Nat) (hs : V.heap.size = s) : BRow (((V.alloc o).alloc (zBools n)).drew) (((V.alloc o).alloc (zBools n)).drew).heap.size (some ⟨s + 1, 0, none⟩) n (fun _ => false) := by
  subst hs
  have h := cards_made (V.alloc o) n
  rw [World.size_alloc] at h
  exact h.more (by simp [World.drew])
def noHs : Hs := ⟨⟨none, 0, 0⟩, ⟨none, 0, 0⟩, Ls.noSl, ⟨none, 0, 0⟩⟩
def NewOut (w : World) (n : Nat) (e : Ending) (w' : World) : Prop :=
  ∃ (A C : Option Addr) (g cw : Nat), e = .returned (.tuple #[.agg #[.slice (some ⟨g, 0, none⟩) (16 * n) cw, .slice A n n, .slice none 0 0, .slice none 0 0, .slice none 0 0, .slice C (2 * n) (2 * n)], .int .i64 0]) ∧
    Row w' w'.heap.size (some ⟨g, 0, none⟩) (16 * n) (List.replicate (16 * n) 0) ∧ Cl.PRow w' w'.heap.size A n (fun _ => (0, 0)) ∧ BRow w' w'.heap.size C (2 * n) (fun _ => false) ∧ Below w.heap.size w w'
theorem put6_gen {W : World} {b : Nat} (h : ∀ j, j < 6 → ∃ v, W.cell? ⟨b, j, none⟩ = some v) (v0 v1 v2 v3 v4 v5 : Value) (o1 o2 : Obj) :
    (((put6 W b v0 v1 v2 v3 v4 v5).alloc o1).alloc o2).cell? ⟨b, 0, none⟩ = some v0 ∧ (((put6 W b v0 v1 v2 v3 v4 v5).alloc o1).alloc o2).cell? ⟨b, 1, none⟩ = some v1 ∧ (((put6 W b v0 v1 v2 v3 v4 v5).alloc o1).alloc o2).cell? ⟨b, 2, none⟩ = some v2 ∧
    (((put6 W b v0 v1 v2 v3 v4 v5).alloc o1).alloc o2).cell? ⟨b, 3, none⟩ = some v3 ∧ (((put6 W b v0 v1 v2 v3 v4 v5).alloc o1).alloc o2).cell? ⟨b, 4, none⟩ = some v4 ∧ (((put6 W b v0 v1 v2 v3 v4 v5).alloc o1).alloc o2).cell? ⟨b, 5, none⟩ = some v5 := by
  obtain ⟨_, h0⟩ := h 0 (by decide)
  obtain ⟨_, h1⟩ := h 1 (by decide)
  obtain ⟨_, h2⟩ := h 2 (by decide)
  obtain ⟨_, h3⟩ := h 3 (by decide)
  obtain ⟨_, h4⟩ := h 4 (by decide)
  obtain ⟨_, h5⟩ := h 5 (by decide)
  have hl : b < W.heap.size := World.block_lt_of_cell? W _ h0
  refine ⟨?_, ?_, ?_, ?_, ?_, ?_⟩ <;> (rw [World.cell?_alloc_past _ _ _ (by simp [put6_size]; omega), World.cell?_alloc_past _ _ _ (by rw [put6_size]; exact hl)]; simp [put6, go_sem, h0, h1, h2, h3, h4, h5])
theorem put6_other (w : World) (b : Nat) (v0 v1 v2 v3 v4 v5 : Value) {k : Nat} (h : ¬ k = b) : (put6 w b v0 v1 v2 v3 v4 v5).heap[k]? = w.heap[k]? :=
  (Below.heap_setCell _ _ _ _ h).trans ((Below.heap_setCell _ _ _ _ h).trans ((Below.heap_setCell _ _ _ _ h).trans ((Below.heap_setCell _ _ _ _ h).trans ((Below.heap_setCell _ _ _ _ h).trans (Below.heap_setCell _ _ _ _ h)))))
theorem new_end {w w1 W' : World} {o o1 o2 : Obj} {n m k g c : Nat} {A C : Option Addr} {v0 v1 v2 v3 v4 v5 : Value} (hm : 16 * n = m) (hk : 2 * n = k) (hmine : Mine w1 (w.alloc o).heap.size 3 g m c (List.replicate m 0)) (hb1 : Below (w.alloc o).heap.size (w.alloc o) w1)
    (hW : W' = (((put6 w1 w.heap.size v0 v1 v2 v3 v4 v5).alloc o1).alloc o2).drew) (hp : Cl.PRow W' W'.heap.size A n (fun _ => (0, 0))) (hc : BRow W' W'.heap.size C k (fun _ => false)) :
    NewOut w n (.returned (.tuple #[.agg #[.slice (some ⟨g, 0, none⟩) m c, .slice A n n, .slice none 0 0, .slice none 0 0, .slice none 0 0, .slice C k k], .int .i64 0])) W' := by
  subst hm hk
  have hg := hmine.2.1
  have hs1 := hb1.size
  rw [World.size_alloc] at hg hs1
  have hbel : Below w.heap.size w W' := by
    rw [hW]
    exact below_drawn' (((below_put6 (((Below.refl _ _).alloc (Nat.le_refl _) o).trans (hb1.mono (by simp))) (Nat.le_refl _) _ _ _ _ _ _).alloc (by rw [put6_size]; omega) _).alloc (by simp [put6_size]; omega) _) 1
  refine ⟨A, C, g, c, rfl, ?_, hp, hc, hbel⟩
  have hr := row_same (w' := W') hmine.row (fun _ x hx => by
    cases hx
    have hgl := hmine.2.2.1
    rw [hW]
    show ((((put6 w1 w.heap.size v0 v1 v2 v3 v4 v5).alloc o1).alloc o2)).heap[g]? = _
    rw [Below.heap_alloc _ _ _ (by simp [put6_size]; omega), Below.heap_alloc _ _ _ (by rw [put6_size]; exact hgl), put6_other _ _ _ _ _ _ _ _ (by omega)])
  refine hr.more ?_
  rw [hW]
  simp [World.drew, put6_size]
  omega
theorem new_ok (n : Nat) (w : World) (h0 : 1 ≤ n) (h1 : n ≤ 64) : Calls Tryz.prog 41 #[.int .i64 (n : Int)] w (NewOut w n) := by
  have hnew := fun W => Ar.new_ok (n : Int) W (by omega) (by omega)
  obtain ⟨m, hm⟩ : ∃ m, 16 * n = m := ⟨_, rfl⟩
  obtain ⟨k, hk⟩ : ∃ k, 2 * n = k := ⟨_, rfl⟩
  simp only [show ((n : Int) * 16).toNat = m by omega] at hnew
  have HNEW := Lib.hid hnew
  have mp := make_pages n (by omega)
  have mb := make_bools k (by omega)
  have d1 : (m : Int) / 8 = k := by omega
  have d2 : Int.tdiv (m : Int) 8 = k := by rw [Int.tdiv_eq_ediv_of_nonneg (by omega)]; exact d1
  have HM := Lib.hid hm
  have HK := Lib.hid hk
  have hm2 : m ≤ 100000 := by omega
  clear hnew hm hk
  go_enter Tryz.func41, Tryz.ntmps41
  go_wp2_with fail
  refine (HNEW.out _).mono ?_
  rintro e w1 ⟨g, c, rfl, hmine, hb1⟩
  have HMI := Lib.hid hmine
  have HB1 := Lib.hid hb1
  have hs1 := hb1.size
  simp only [World.size_alloc] at hs1
  have zc : ∀ j, j < 6 → w1.cell? ⟨w.heap.size, j, none⟩ = some (.slice none 0 0) := fun j hj => (hb1.cell (p := ⟨w.heap.size, j, none⟩) (by simp)).trans (by
    match j, hj with
    | 0, _ => simp [go_sem]
    | 1, _ => simp [go_sem]
    | 2, _ => simp [go_sem]
    | 3, _ => simp [go_sem]
    | 4, _ => simp [go_sem]
    | 5, _ => simp [go_sem])
  have zf : ∀ j, w1.frozen? ⟨w.heap.size, j, none⟩ = false := fun j => (hb1.frozen (p := ⟨w.heap.size, j, none⟩) (by simp)).trans (by simp [go_sem])
  have y0 := zc 0 (by decide)
  have y1 := zc 1 (by decide)
  have y2 := zc 2 (by decide)
  have y3 := zc 3 (by decide)
  have y4 := zc 4 (by decide)
  have y5 := zc 5 (by decide)
  have z0 := zf 0
  have z1 := zf 1
  have z2 := zf 2
  have z3 := zf 3
  have z4 := zf 4
  have z5 := zf 5
  have zl : w.heap.size < w1.heap.size := by omega
  have HC6 := Lib.hid (fun j hj => (⟨_, zc j hj⟩ : ∃ v, w1.cell? ⟨w.heap.size, j, none⟩ = some v))
  clear hmine hb1 zc zf
  go_wp2
  go_region
  all_goals go_wp2
  · refine bodyPost_ret (v := .tuple #[.agg #[.slice (some ⟨g, 0, none⟩) m c, .slice (some ⟨w1.heap.size, 0, none⟩) n n, .slice none 0 0, .slice none 0 0, .slice none 0 0, .slice (some ⟨w1.heap.size + 1, 0, none⟩) k k], .int .i64 0]) ?_ rfl ?_
    rotate_left
    · refine new_end HM.out HK.out HMI.out HB1.out rfl ?_ ?_
      · exact pages_in _ _ n _ (put6_size w1 w.heap.size _ _ _ _ _ _)
      · exact cards_in' _ _ k _ (put6_size w1 w.heap.size _ _ _ _ _ _)
    · obtain ⟨k0, k1, k2, k3, k4, k5⟩ := put6_gen (W := w1) (b := w.heap.size) HC6.out (.slice (some ⟨g, 0, none⟩) m c) (.slice (some ⟨w1.heap.size, 0, none⟩) n n) (.slice none 0 0) (.slice none 0 0) (.slice none 0 0) (.slice (some ⟨w1.heap.size + 1, 0, none⟩) k k) (zPages n) (zBools k)
      unfold put6 at k0 k1 k2 k3 k4 k5
      clear y0 y1 y2 y3 y4 y5
      simp [results, Tryz.results41, go_sem, k0, k1, k2, k3, k4, k5]
  · refine bodyPost_ret (v := .tuple #[.agg #[.slice (some ⟨g, 0, none⟩) m c, .slice (some ⟨w1.heap.size + 1, 0, none⟩) n n, .slice none 0 0, .slice none 0 0, .slice none 0 0, .slice (some ⟨w1.heap.size, 0, none⟩) k k], .int .i64 0]) ?_ rfl ?_
    rotate_left
    · refine new_end HM.out HK.out HMI.out HB1.out rfl ?_ ?_
      · exact pages_in' _ _ n _ (put6_size w1 w.heap.size _ _ _ _ _ _)
      · exact cards_in _ _ k _ (put6_size w1 w.heap.size _ _ _ _ _ _)
    · obtain ⟨k0, k1, k2, k3, k4, k5⟩ := put6_gen (W := w1) (b := w.heap.size) HC6.out (.slice (some ⟨g, 0, none⟩) m c) (.slice (some ⟨w1.heap.size + 1, 0, none⟩) n n) (.slice none 0 0) (.slice none 0 0) (.slice none 0 0) (.slice (some ⟨w1.heap.size, 0, none⟩) k k) (zBools k) (zPages n)
      unfold put6 at k0 k1 k2 k3 k4 k5
      clear y0 y1 y2 y3 y4 y5
      simp [results, Tryz.results41, go_sem, k0, k1, k2, k3, k4, k5]
end Go.Proofs.YtgmkomnoiffapaaGreatDoor
end
section
namespace Go.Proofs.YtgmkomnoiffapaaGreatDoor.Cl
open Go.Proofs.YtgmkomnoiffapaaGreatDoor
set_option maxRecDepth 100000
open Go.RowKit

def findO (f : Nat → Int × Int) (n : Nat) (m : Int) : Option Nat := if mayB f n && runB m then (List.range (n + 1 - m.toNat)).find? (fun k => freeB f k m.toNat) else none
def findV (f : Nat → Int × Int) (n : Nat) (m : Int) : Int := match findO f n m with | some k => k | none => 0
def findS (f : Nat → Int × Int) (n : Nat) (m : Int) : Bool := (findO f n m).isSome
theorem found {f : Nat → Int × Int} {n : Nat} {m : Int} {k : Nat} (h : findO f n m = some k) :
    Ending.returned (.tuple #[.int .i64 k, .bool true]) = .returned (.tuple #[.int .i64 (findV f n m), .bool (findS f n m)]) := by
  unfold findV findS; rw [h]; rfl
theorem nowhere {f : Nat → Int × Int} {n : Nat} {m : Int} (h : findO f n m = none) :
    Ending.returned (.tuple #[.int .i64 0, .bool false]) = .returned (.tuple #[.int .i64 (findV f n m), .bool (findS f n m)]) := by
  unfold findV findS; rw [h]; rfl

/-- None of the places before j serves. -/
def Passed (f : Nat → Int × Int) (m : Nat) (j : Nat) : Prop := ∀ i, i < j → freeB f i m = false
theorem Passed.zero (f : Nat → Int × Int) (m : Nat) : Passed f m 0 := fun i h => absurd h (by omega)
theorem Passed.next {f : Nat → Int × Int} {m j : Nat} (h : Passed f m j) (hj : freeB f j m = false) : Passed f m (j + 1) := fun i hi => by
  by_cases e : i = j
  · rw [e]; exact hj
  · exact h i (by omega)
/-- The first t pages from j on are free. -/
def Open (f : Nat → Int × Int) (j t : Nat) : Prop := ∀ i, i < t → (f (j + i)).1 = 0
theorem Open.zero (f : Nat → Int × Int) (j : Nat) : Open f j 0 := fun i h => absurd h (by omega)
theorem Open.next {f : Nat → Int × Int} {j t : Nat} (h : Open f j t) (ht : (f (j + t)).1 = 0) : Open f j (t + 1) := fun i hi => by
  by_cases e : i = t
  · rw [e]; exact ht
  · exact h i (by omega)

end Go.Proofs.YtgmkomnoiffapaaGreatDoor.Cl
end
section
namespace Go.Proofs.YtgmkomnoiffapaaGreatDoor.Cl
open Go.Proofs.YtgmkomnoiffapaaGreatDoor
set_option maxRecDepth 100000
open Go.RowKit

end Go.Proofs.YtgmkomnoiffapaaGreatDoor.Cl
end
section
namespace Go.Proofs.YtgmkomnoiffapaaGreatDoor.Cl
open Go.Proofs.YtgmkomnoiffapaaGreatDoor
set_option maxRecDepth 100000
open Go.RowKit

theorem info_page : (Tryz.prog.info? 81).map (fun i => (i.zero, i.size, i.bytes)) = some (some (.agg #[.int .i64 0, .int .i64 0]), 2, 16) := by kernel_rfl

/-- The row's block is as it was. -/
theorem PMine.kept {w w' : World} {base e g n c : Nat} {f : Nat → Int × Int} (h : PMine w base e g n c f) (hg : w'.heap[g]? = w.heap[g]?) (hs : w.heap.size ≤ w'.heap.size) : PMine w' base e g n c f := by
  obtain ⟨⟨h1, h2⟩, h3, h4, h5⟩ := h
  refine ⟨⟨h1, ?_⟩, h3, by omega, h5⟩
  rcases h2 with h2 | ⟨g', cap, cur, hv, hb, hh, hr⟩
  · exact .inl h2
  · simp only [Value.slice.injEq, Option.some.injEq, Addr.mk.injEq, and_true, true_and] at hv
    obtain ⟨rfl, rfl⟩ := hv
    exact .inr ⟨g, c, cur, rfl, hb, hg.trans hh, hr⟩
theorem PMine.alloc {w : World} {base e g n c : Nat} {f : Nat → Int × Int} (h : PMine w base e g n c f) (o : Obj) : PMine (w.alloc o) base e g n c f :=
  h.kept (Below.heap_alloc w o g h.2.2.1) (by simp)
theorem PMine.below {w w' : World} {base e g n c B : Nat} {f : Nat → Int × Int} (h : PMine w base e g n c f) (hb : Below B w w') (hg : g < B) : PMine w' base e g n c f :=
  h.kept (hb.block g hg) hb.size

/-- A copy of the call's own was returned; all that was there is as it was. -/
def PMade (w : World) (n : Nat) (f : Nat → Int × Int) (e : Ending) (w' : World) : Prop :=
  ∃ g c, e = .returned (.slice (some ⟨g, 0, none⟩) n c) ∧ PMine w' w.heap.size 81 g n c f ∧ Below w.heap.size w w'

theorem pcells_of {w : World} {b off n : Nat} {f : Nat → Int × Int} (hc : ∀ i, i < n → w.cell? ⟨b, off + i * 2, none⟩ = some (.int .i64 (f i).1) ∧ w.cell? ⟨b, off + i * 2 + 1, none⟩ = some (.int .i64 (f i).2))
    (j : Nat) (u : Value) (hj : (pcells f n)[j]? = some u) : w.cell? ⟨b, off + j, none⟩ = some u := by
  have hjn : j < n * 2 := by
    have := (List.getElem?_eq_some_iff.1 hj).1
    rwa [pcells_length] at this
  rw [pcells_at f n j hjn] at hj
  obtain rfl := Option.some.inj hj
  by_cases hm : j % 2 = 0
  · have := (hc (j / 2) (by omega)).1
    rw [show off + j / 2 * 2 = off + j by omega] at this
    rw [this]
    simp [pcell, hm]
  · have := (hc (j / 2) (by omega)).2
    rw [show off + j / 2 * 2 + 1 = off + j by omega] at this
    rw [this]
    simp [pcell, hm]
theorem pcells_one {f : Nat → Int × Int} {n : Nat} : ∀ u ∈ pcells f n, u.oneCell' = true := by
  intro u hu
  obtain ⟨x, _, rfl⟩ := List.mem_map.1 hu
  rfl

theorem pclone_ok (B : Nat) (A : Option Addr) (n c : Nat) (f : Nat → Int × Int) (w : World) (hn : 0 < n) (hbig : n ≤ 1000) (hr : PRow w B A n f) :
    Calls Tryz.prog 95 #[.slice A n c] w (PMade w n f) := by
  obtain ⟨i0, hi, hz0, hz1, hz2⟩ := info_parts info_page
  obtain ⟨b, off, rfl, _, hc⟩ := hr hn
  have HC := Lib.hid hc
  have q22 : ∀ (w : World) (a : Option Addr) (n c n' c' : Nat), (binOp .eql 23 (.slice a n c) (.slice none n' c')).run Tryz.prog w = .ok (.bool a.isNone) w := fun w a n c n' c' => Lib.run_eql_slice_nil w _ _ a n c n' c' Tryz.underlying23
  have u22 : ∀ w, Sem.run Tryz.prog (underlying 23) w = .ok (TypeDesc.slice 81) w := run_underlying Tryz.underlying23
  clear hc hr
  go_enter Tryz.func95, Tryz.ntmps95
  go_wp2_with (at_builtin; refine wpList_append_own _ rfl _ _ 23 rfl w.heap.size 81 i0 (.agg #[.int .i64 0, .int .i64 0]) 2 16 Tryz.underlying23 hi hz0 hz1 hz2 rfl (by decide) _ _ _ rfl (World.ownsRow_made w #[] 0 (Nat.le_refl _) (Nat.zero_le _) rfl) ⟨b, off, none⟩ n c (pcells f n) rfl ?qc1 ?qc2 ?qc3 ?qc4 ?qc5 ?qc6 ?_)
  case qc1 => exact pcells_length f n
  case qc2 =>
    intro j u hj
    rw [Addr.add_lit]
    exact Lib.cell?_alloc_some _ (pcells_of HC.out j u hj)
  case qc3 => exact pcells_one
  case qc4 => unfold maxLen; omega
  case qc5 => omega
  case qc6 => simp
  intro v' w1 hown hgrow hnil
  have hown' : w1.ownsRow w.heap.size 81 2 v' n (pcells f n) := by simpa using hown
  obtain ⟨g, c', rfl, hm⟩ := pmine_of hown' hn
  have HM := Lib.hid hm
  clear hown hown' hnil hm
  go_wp2
  go_ret
  exact ⟨g, c', rfl, HM.out, ((Below.refl _ w).alloc (Nat.le_refl _) _).grown hgrow (by simp) (by intro k hk; simp [Value.ownBlock] at hk; omega)⟩

end Go.Proofs.YtgmkomnoiffapaaGreatDoor.Cl
end
section
namespace Go.Proofs.YtgmkomnoiffapaaGreatDoor
open Go.RowKit
set_option maxRecDepth 100000

theorem iclone_any (B : Nat) (A : Option Addr) (n c : Nat) (xs : List Int) (w : World) (hn : n ≤ 2000000) (hB : B ≤ w.heap.size) (hr : Row w B A n xs) :
    Calls Tryz.prog 94 #[.slice A n c] w (Ls.AllOut w xs) := by
  have HR := Lib.hid hr
  have q22 : ∀ (w : World) (a : Option Addr) (n c n' c' : Nat), (binOp .eql 22 (.slice a n c) (.slice none n' c')).run Tryz.prog w = .ok (.bool a.isNone) w := fun w a n c n' c' => Lib.run_eql_slice_nil w _ _ a n c n' c' Tryz.underlying22
  have hl := hr.1
  have hA : A = none → n = 0 ∧ xs = [] := fun e => by
    by_cases h0 : n = 0
    · exact ⟨h0, List.eq_nil_of_length_eq_zero (by omega)⟩
    · obtain ⟨b, off, e', _⟩ := hr.2 (by omega)
      rw [e] at e'
      cases e'
  clear hr hl
  cases A with
  | none =>
    obtain ⟨rfl, rfl⟩ := hA rfl
    clear hA
    go_enter Tryz.func94, Tryz.ntmps94
    go_wp2
    go_ret
    exact ⟨⟨none, 0, 0⟩, rfl, World.ownsRow_nil _ _ _ _, Below.refl _ _⟩
  | some x =>
    clear hA
    go_enter Tryz.func94, Tryz.ntmps94
    go_wp2_with (at_builtin; refine Ls.list_cat rfl (.tmp 5) (.tmp 6) rfl rfl rfl (xs := []) (World.ownsRow_made w #[] 0 (Nat.le_refl _) (Nat.zero_le _) rfl) (HR.out.below ((Below.refl B w).alloc hB _)) (by simp) (by omega) ?_)
    intro p' cp' w1 hcat
    have ho := hcat.own
    have hg := hcat.grown
    have HO := Lib.hid ho
    have HG := Lib.hid hg
    clear hcat ho hg
    go_wp2
    go_ret
    exact ⟨⟨p', n, cp'⟩, rfl, HO.out, ((Below.refl _ w).alloc (Nat.le_refl _) _).grown HG.out (by simp) (by intro k hk; simp [Value.ownBlock] at hk; omega)⟩

def bcells (f : Nat → Bool) (n : Nat) : List Value := (List.range n).map fun i => .bool (f i)
theorem bcells_at (f : Nat → Bool) (n i : Nat) (h : i < n) : (bcells f n)[i]? = some (.bool (f i)) := by simp [bcells, h]
theorem info_boolC : (Tryz.prog.info? 4).map (fun i => (i.zero, i.size, i.bytes)) = some (some (.bool false), 1, 1) := by kernel_rfl
/-- A row of truth values in a block of the call's own. -/
def BMade (w : World) (n : Nat) (f : Nat → Bool) (e : Ending) (w' : World) : Prop :=
  ∃ g c, e = .returned (.slice (some ⟨g, 0, none⟩) n c) ∧ (∀ i, i < n → w'.cell? ⟨g, i, none⟩ = some (.bool (f i))) ∧ (∀ i, w'.frozen? ⟨g, i, none⟩ = false) ∧ w.heap.size ≤ g ∧ g < w'.heap.size ∧ Below w.heap.size w w'
theorem bmade_of {w w1 : World} {v : Value} {n : Nat} {f : Nat → Bool} (h : w1.ownsRow w.heap.size 4 1 v n (bcells f n)) (hn : 0 < n) :
    ∃ g c, v = .slice (some ⟨g, 0, none⟩) n c ∧ (∀ i, i < n → w1.cell? ⟨g, i, none⟩ = some (.bool (f i))) ∧ w.heap.size ≤ g ∧ g < w1.heap.size := by
  rcases h.2 with ⟨rfl, h0⟩ | ⟨g, c, cur, rfl, hb, hh, hnc, hcm, _⟩
  · omega
  · exact ⟨g, c, rfl, fun i hi => (h.cellAt i (by omega)).trans (bcells_at f n i hi), hb, (Array.getElem?_eq_some_iff.1 hh).1⟩
theorem bclone_ok (B : Nat) (A : Option Addr) (n c : Nat) (f : Nat → Bool) (w : World) (hn : 0 < n) (hbig : n ≤ 1000000) (hr : BRow w B A n f) :
    Calls Tryz.prog 97 #[.slice A n c] w (BMade w n f) := by
  obtain ⟨i0, hi, hz0, hz1, hz2⟩ := info_parts info_boolC
  obtain ⟨b, off, rfl, _, hc⟩ := hr hn
  have HC := Lib.hid hc
  have q22 : ∀ (w : World) (a : Option Addr) (n c n' c' : Nat), (binOp .eql 26 (.slice a n c) (.slice none n' c')).run Tryz.prog w = .ok (.bool a.isNone) w := fun w a n c n' c' => Lib.run_eql_slice_nil w _ _ a n c n' c' Tryz.underlying26
  have u22 : ∀ w, Sem.run Tryz.prog (underlying 26) w = .ok (TypeDesc.slice 4) w := run_underlying Tryz.underlying26
  clear hc hr
  go_enter Tryz.func97, Tryz.ntmps97
  go_wp2_with (at_builtin; refine wpList_append_own _ rfl _ _ 26 rfl w.heap.size 4 i0 (.bool false) 1 1 Tryz.underlying26 hi hz0 hz1 hz2 rfl (by decide) _ _ _ rfl (World.ownsRow_made w #[] 0 (Nat.le_refl _) (Nat.zero_le _) rfl) ⟨b, off, none⟩ n c (bcells f n) rfl ?qc1 ?qc2 ?qc3 ?qc4 ?qc5 ?qc6 ?_)
  case qc1 => simp [bcells]
  case qc2 =>
    intro j u hj
    rw [Addr.add_lit]
    have hjn : j < n := by
      have := (List.getElem?_eq_some_iff.1 hj).1
      simpa [bcells] using this
    rw [bcells_at f n j hjn] at hj
    rw [← hj]
    exact Lib.cell?_alloc_some _ (HC.out j hjn)
  case qc3 =>
    intro u hu
    obtain ⟨x, _, rfl⟩ := List.mem_map.1 hu
    rfl
  case qc4 => unfold maxLen; omega
  case qc5 => omega
  case qc6 => simp
  intro v' w1 hown hgrow hnil
  have hown' : w1.ownsRow w.heap.size 4 1 v' n (bcells f n) := by simpa using hown
  obtain ⟨g, c', rfl, hm, hb, hl⟩ := bmade_of hown' hn
  have HM := Lib.hid hm
  have HFZ : Hid (∀ i, w1.frozen? ⟨g, i, none⟩ = false) := Lib.hid fun i => hown'.frozenAt i
  clear hown hown' hnil hm
  go_wp2
  go_ret
  exact ⟨g, c', rfl, HM.out, HFZ.out, hb, hl, ((Below.refl _ w).alloc (Nat.le_refl _) _).grown hgrow (by simp) (by intro k hk; simp [Value.ownBlock] at hk; omega)⟩
end Go.Proofs.YtgmkomnoiffapaaGreatDoor
end
section
namespace Go.Proofs.YtgmkomnoiffapaaGreatDoor
open Go.RowKit
set_option maxRecDepth 100000

/-- A box of six cells that are not frozen. -/
structure Box6 (W : World) (b : Nat) (t : Hs) : Prop where
  box : HBox W b t
  free : ∀ j, W.frozen? ⟨b, j, none⟩ = false
/-- Of such a heap's slices none lies in the two boxes. -/
def Off (b : Nat) (v : Ls.Sl) : Prop := 0 < v.n → ∀ x, v.a = some x → ¬ x.block = b ∧ ¬ x.block = b + 1
/-- A slice in new memory. -/
def New (b : Nat) (v : Ls.Sl) : Prop := 0 < v.n → ∀ x, v.a = some x → b ≤ x.block
/-- A heap that is being copied: what the box holds so far. -/
structure Cp (w W : World) (t : Hs) (d : Hd_) : Prop where
  bel : Below w.heap.size w W
  hp : Hp W W.heap.size t d
  ow : Off w.heap.size t.w
  op : Off w.heap.size t.p
  ou : ∀ j, j < 3 → Off w.heap.size (t.u j)
  oc : Off w.heap.size t.c
  box : Box6 W w.heap.size t
  res : Box6 W (w.heap.size + 1) noHs
theorem Box6.next {W W' : World} {b : Nat} {t : Hs} (h : Box6 W b t) (hb : Below W.heap.size W W') : Box6 W' b t := ⟨h.box.next hb, fun j => (hb.frozen (p := ⟨b, j, none⟩) h.box.lt).trans (h.free j)⟩
theorem Box6.same {W W' : World} {b : Nat} {t : Hs} (h : Box6 W b t) (hs : W'.heap[b]? = W.heap[b]?) (hl : W.heap.size ≤ W'.heap.size) : Box6 W' b t :=
  ⟨⟨(World.cell?_of_block (a := ⟨b, 0, none⟩) hs).trans h.box.c0, (World.cell?_of_block (a := ⟨b, 1, none⟩) hs).trans h.box.c1, (World.cell?_of_block (a := ⟨b, 2, none⟩) hs).trans h.box.c2, (World.cell?_of_block (a := ⟨b, 3, none⟩) hs).trans h.box.c3, (World.cell?_of_block (a := ⟨b, 4, none⟩) hs).trans h.box.c4, (World.cell?_of_block (a := ⟨b, 5, none⟩) hs).trans h.box.c5, Nat.lt_of_lt_of_le h.box.lt hl⟩,
   fun j => (World.frozen?_of_block (a := ⟨b, j, none⟩) hs).trans (h.free j)⟩
theorem Cp.next {w W W' : World} {t : Hs} {d : Hd_} (h : Cp w W t d) (hb : Below W.heap.size W W') : Cp w W' t d :=
  ⟨h.bel.trans (hb.mono h.bel.size), h.hp.next hb, h.ow, h.op, h.ou, h.oc, h.box.next hb, h.res.next hb⟩
/-- All slices stand where only the first box is turned. -/
theorem hp_off {W W' : World} {b : Nat} {t : Hs} {d : Hd_} (h : Hp W W.heap.size t d) (ow : Off b t.w) (op : Off b t.p) (ou : ∀ j, j < 3 → Off b (t.u j)) (oc : Off b t.c) (hs : ∀ k, ¬ k = b → ¬ k = b + 1 → W'.heap[k]? = W.heap[k]?) (hl : W.heap.size = W'.heap.size) : Hp W' W'.heap.size t d := by
  rw [← hl]
  refine ⟨row_same h.words fun hn x hx => hs _ (ow hn x hx).1 (ow hn x hx).2, fun hn => ?_, fun j hj => ⟨row_same (h.free j hj).1 fun hn x hx => hs _ (ou j hj hn x hx).1 (ou j hj hn x hx).2, (h.free j hj).2⟩, fun hn => ?_⟩
  · obtain ⟨b', off, e, hlt, hc⟩ := h.pages hn
    refine ⟨b', off, e, hlt, fun i hi => ?_⟩
    have hb' := hs b' (op hn _ e).1 (op hn _ e).2
    exact ⟨(World.cell?_of_block (a := ⟨b', off + i * 2, none⟩) hb').trans (hc i hi).1, (World.cell?_of_block (a := ⟨b', off + i * 2 + 1, none⟩) hb').trans (hc i hi).2⟩
  · obtain ⟨b', off, e, hlt, hc⟩ := h.cards hn
    refine ⟨b', off, e, hlt, fun i hi => ?_⟩
    exact (World.cell?_of_block (a := ⟨b', off + i, none⟩) (hs b' (oc hn _ e).1 (oc hn _ e).2)).trans (hc i hi)
theorem frozen_set {W : World} {b k : Nat} {v : Value} (h : ∀ j, W.frozen? ⟨b, j, none⟩ = false) : ∀ j, (W.setCell ⟨b, k, none⟩ v).frozen? ⟨b, j, none⟩ = false := fun j => by rw [World.frozen?_setCell]; exact h j
theorem cell_set {W : World} {b k j : Nat} {v x y : Value} (h : W.cell? ⟨b, j, none⟩ = some x) (hy : y = if j = k then v else x) : (W.setCell ⟨b, k, none⟩ v).cell? ⟨b, j, none⟩ = some y := by
  subst hy
  by_cases e : j = k
  · subst e
    rw [if_pos rfl]
    exact World.cell?_setCell_same' _ _ _ (by rw [h]; rfl)
  · rw [if_neg e, World.cell?_setCell_other _ _ _ _ (by intro hh; simp only [Addr.mk.injEq, true_and, and_true] at hh; omega)]
    exact h
/-- One cell of the box is turned: the heap with that slice in the place of the old one. -/
theorem Cp.set {w W : World} {t t' : Hs} {d : Hd_} (h : Cp w W t d) (k : Nat) (v : Value) (hp : Hp W W.heap.size t' d) (ow : Off w.heap.size t'.w) (op : Off w.heap.size t'.p) (ou : ∀ j, j < 3 → Off w.heap.size (t'.u j)) (oc : Off w.heap.size t'.c)
    (e0 : Value.slice t'.w.a t'.w.n t'.w.c = if 0 = k then v else .slice t.w.a t.w.n t.w.c) (e1 : Value.slice t'.p.a t'.p.n t'.p.c = if 1 = k then v else .slice t.p.a t.p.n t.p.c)
    (e2 : Value.slice (t'.u 0).a (t'.u 0).n (t'.u 0).c = if 2 = k then v else .slice (t.u 0).a (t.u 0).n (t.u 0).c) (e3 : Value.slice (t'.u 1).a (t'.u 1).n (t'.u 1).c = if 3 = k then v else .slice (t.u 1).a (t.u 1).n (t.u 1).c)
    (e4 : Value.slice (t'.u 2).a (t'.u 2).n (t'.u 2).c = if 4 = k then v else .slice (t.u 2).a (t.u 2).n (t.u 2).c) (e5 : Value.slice t'.c.a t'.c.n t'.c.c = if 5 = k then v else .slice t.c.a t.c.n t.c.c) :
    Cp w (W.setCell ⟨w.heap.size, k, none⟩ v) t' d := by
  have hsz : W.heap.size = (W.setCell ⟨w.heap.size, k, none⟩ v).heap.size := by simp [World.setCell]
  have hoth : ∀ j, ¬ j = w.heap.size → (W.setCell ⟨w.heap.size, k, none⟩ v).heap[j]? = W.heap[j]? := fun j hj => Below.heap_setCell _ _ _ _ hj
  exact ⟨h.bel.setCell (Nat.le_refl _) _, hp_off hp ow op ou oc (fun j hj _ => hoth j hj) hsz, ow, op, ou, oc,
    ⟨⟨cell_set h.box.box.c0 e0, cell_set h.box.box.c1 e1, cell_set h.box.box.c2 e2, cell_set h.box.box.c3 e3, cell_set h.box.box.c4 e4, cell_set h.box.box.c5 e5, by rw [← hsz]; exact h.box.box.lt⟩, frozen_set h.box.free⟩,
    h.res.same (hoth _ (by omega)) (Nat.le_of_eq hsz)⟩
theorem Cp.drew {w W : World} {t : Hs} {d : Hd_} (h : Cp w W t d) : Cp w W.drew t d := h.next (below_drawn' (Below.refl _ _) 1)
theorem off_old {w : World} {b : Nat} {v : Ls.Sl} {xs : List Int} (h : Row w b v.a v.n xs) : Off b v := fun hn x hx => by
  obtain ⟨b', off, e, hlt, _⟩ := h.2 hn
  rw [hx] at e
  cases e
  exact ⟨by show ¬ b' = b; omega, by show ¬ b' = b + 1; omega⟩
/-- A slice that a call made, as a row, and apart from the boxes. -/
theorem own_off {b base : Nat} {W : World} {v : Ls.Sl} {xs : List Int} (ho : W.ownsRow base 3 1 (.slice v.a v.n v.c) v.n (xs.map (Value.int .i64))) (hb : b + 2 ≤ base) : Row W W.heap.size v.a v.n xs ∧ v.n ≤ v.c ∧ v.c ≤ maxLen ∧ Off b v ∧ New b v := by
  obtain ⟨a, c, e, hr, h1, h2⟩ := Ls.owns_row ho
  simp only [Value.slice.injEq, true_and] at e
  obtain ⟨rfl, rfl⟩ := e
  refine ⟨hr, h1, h2, fun _ x hx => ?_, fun _ x hx => ?_⟩
  · have := (ho.lt x.block (by rw [Ls.ownBlock_slice, hx]; rfl)).1
    exact ⟨by omega, by omega⟩
  · have := (ho.lt x.block (by rw [Ls.ownBlock_slice, hx]; rfl)).1
    omega
/-- What copied leaves: the same heap, in memory of its own. -/
structure News (b : Nat) (t : Hs) : Prop where
  w : New b t.w
  p : New b t.p
  u : ∀ j, j < 3 → New b (t.u j)
  c : New b t.c
/-- A heap in new memory stands where nothing of that is turned. -/
theorem News.kept {b : Nat} {t : Hs} {d : Hd_} {W W' : World} (hn : News b t) (h : Hp W W.heap.size t d) (hs : ∀ k, b ≤ k → k < W.heap.size → W'.heap[k]? = W.heap[k]?) (hl : W.heap.size ≤ W'.heap.size) : Hp W' W'.heap.size t d := by
  refine Hp.more ?_ hl
  refine ⟨row_same h.words fun h0 x hx => ?_, fun h0 => ?_, fun j hj => ⟨row_same (h.free j hj).1 fun h0 x hx => ?_, (h.free j hj).2⟩, fun h0 => ?_⟩
  · obtain ⟨b', off, e, hlt, _⟩ := h.words.2 h0
    rw [hx] at e
    cases e
    exact hs _ (hn.w h0 _ hx) hlt
  · obtain ⟨b', off, e, hlt, hc⟩ := h.pages h0
    have hb' := hs b' (hn.p h0 _ e) hlt
    exact ⟨b', off, e, hlt, fun i hi => ⟨(World.cell?_of_block (a := ⟨b', off + i * 2, none⟩) hb').trans (hc i hi).1, (World.cell?_of_block (a := ⟨b', off + i * 2 + 1, none⟩) hb').trans (hc i hi).2⟩⟩
  · obtain ⟨b', off, e, hlt, _⟩ := (h.free j hj).1.2 h0
    rw [hx] at e
    cases e
    exact hs _ (hn.u j hj h0 _ hx) hlt
  · obtain ⟨b', off, e, hlt, hc⟩ := h.cards h0
    exact ⟨b', off, e, hlt, fun i hi => (World.cell?_of_block (a := ⟨b', off + i, none⟩) (hs b' (hn.c h0 _ e) hlt)).trans (hc i hi)⟩
def CopyOut (w : World) (s : Hs) (d : Hd_) (e : Ending) (w' : World) : Prop :=
  ∃ t : Hs, e = .returned (.agg #[.slice t.w.a t.w.n t.w.c, .slice t.p.a t.p.n t.p.c, .slice (t.u 0).a (t.u 0).n (t.u 0).c, .slice (t.u 1).a (t.u 1).n (t.u 1).c, .slice (t.u 2).a (t.u 2).n (t.u 2).c, .slice t.c.a t.c.n t.c.c]) ∧ Hp w' w'.heap.size t d ∧ (t.w.n = s.w.n ∧ t.p.n = s.p.n ∧ (∀ j, j < 3 → (t.u j).n = (s.u j).n) ∧ t.c.n = s.c.n) ∧ News w.heap.size t ∧ Below w.heap.size w w'
/-- Words, pages and cards are turned at once. -/
theorem Cp.three {w W : World} {s t : Hs} {d : Hd_} (h : Cp w W s d) (hp : Hp W W.heap.size t d) (ow : Off w.heap.size t.w) (op : Off w.heap.size t.p) (oc : Off w.heap.size t.c) (eu : t.u = s.u) :
    Cp w (((W.setCell ⟨w.heap.size, 0, none⟩ (.slice t.w.a t.w.n t.w.c)).setCell ⟨w.heap.size, 1, none⟩ (.slice t.p.a t.p.n t.p.c)).setCell ⟨w.heap.size, 5, none⟩ (.slice t.c.a t.c.n t.c.c)) t d := by
  have hsz : W.heap.size = (((W.setCell ⟨w.heap.size, 0, none⟩ (.slice t.w.a t.w.n t.w.c)).setCell ⟨w.heap.size, 1, none⟩ (.slice t.p.a t.p.n t.p.c)).setCell ⟨w.heap.size, 5, none⟩ (.slice t.c.a t.c.n t.c.c)).heap.size := by simp [World.setCell]
  have hoth : ∀ j, ¬ j = w.heap.size → (((W.setCell ⟨w.heap.size, 0, none⟩ (.slice t.w.a t.w.n t.w.c)).setCell ⟨w.heap.size, 1, none⟩ (.slice t.p.a t.p.n t.p.c)).setCell ⟨w.heap.size, 5, none⟩ (.slice t.c.a t.c.n t.c.c)).heap[j]? = W.heap[j]? := fun j hj => (Below.heap_setCell _ _ _ _ hj).trans ((Below.heap_setCell _ _ _ _ hj).trans (Below.heap_setCell _ _ _ _ hj))
  have ou : ∀ j, j < 3 → Off w.heap.size (t.u j) := by rw [eu]; exact h.ou
  refine ⟨((h.bel.setCell (p := ⟨w.heap.size, 0, none⟩) (Nat.le_refl _) _).setCell (p := ⟨w.heap.size, 1, none⟩) (Nat.le_refl _) _).setCell (p := ⟨w.heap.size, 5, none⟩) (Nat.le_refl _) _, hp_off hp ow op ou oc (fun j hj _ => hoth j hj) hsz, ow, op, ou, oc,
    ⟨⟨?_, ?_, ?_, ?_, ?_, ?_, by rw [← hsz]; exact h.box.box.lt⟩, frozen_set (frozen_set (frozen_set h.box.free))⟩, h.res.same (hoth _ (by omega)) (Nat.le_of_eq hsz)⟩
  · exact cell_set (cell_set (cell_set h.box.box.c0 rfl) rfl) rfl
  · exact cell_set (cell_set (cell_set h.box.box.c1 rfl) rfl) rfl
  · rw [eu]; exact cell_set (cell_set (cell_set h.box.box.c2 rfl) rfl) rfl
  · rw [eu]; exact cell_set (cell_set (cell_set h.box.box.c3 rfl) rfl) rfl
  · rw [eu]; exact cell_set (cell_set (cell_set h.box.box.c4 rfl) rfl) rfl
  · exact cell_set (cell_set (cell_set h.box.box.c5 rfl) rfl) rfl
/-- One of the lists is turned. -/
theorem Cp.list {w W : World} {t : Hs} {d : Hd_} (h : Cp w W t d) {k : Nat} (hk : k < 3) (v : Ls.Sl) (hr : Row W W.heap.size v.a v.n (d.F k)) (h1 : v.n ≤ v.c) (h2 : v.c ≤ maxLen) (ho : Off w.heap.size v) :
    Cp w (W.setCell ⟨w.heap.size, 2 + k, none⟩ (.slice v.a v.n v.c)) ⟨t.w, t.p, Ls.upd t.u k v, t.c⟩ d := by
  have hp : Hp W W.heap.size ⟨t.w, t.p, Ls.upd t.u k v, t.c⟩ d := ⟨h.hp.words, h.hp.pages, by
    have := h.hp.free.set k v (d.F k) hr h1 h2
    rwa [show Ls.upd d.F k (d.F k) = d.F by funext j; by_cases e : j = k <;> simp [Ls.upd, e]] at this, h.hp.cards⟩
  have ou : ∀ j, j < 3 → Off w.heap.size (Ls.upd t.u k v j) := fun j hj => by
    by_cases e : j = k
    · subst e; rw [Ls.upd_same]; exact ho
    · rw [Ls.upd_other _ _ e]; exact h.ou j hj
  refine h.set (2 + k) _ hp h.ow h.op ou h.oc ?_ ?_ ?_ ?_ ?_ ?_
  · rw [if_neg (by omega)]
  · rw [if_neg (by omega)]
  · by_cases e : k = 0
    · subst e; rfl
    · rw [if_neg (by omega)]
      dsimp only
      rw [Ls.upd_other _ _ (by omega)]
  · by_cases e : k = 1
    · subst e; rfl
    · rw [if_neg (by omega)]
      dsimp only
      rw [Ls.upd_other _ _ (by omega)]
  · by_cases e : k = 2
    · subst e; rfl
    · rw [if_neg (by omega)]
      dsimp only
      rw [Ls.upd_other _ _ (by omega)]
  · rw [if_neg (by omega)]
theorem prow_more {w : World} {B C n : Nat} {a : Option Addr} {f : Nat → Int × Int} (h : Cl.PRow w B a n f) (hB : B ≤ C) : Cl.PRow w C a n f := fun hn => by
  obtain ⟨b, off, e, hlt, hc⟩ := h hn
  exact ⟨b, off, e, Nat.lt_of_lt_of_le hlt hB, hc⟩
def Lens (s t : Hs) : Prop := t.w.n = s.w.n ∧ t.p.n = s.p.n ∧ (∀ j, j < 3 → (t.u j).n = (s.u j).n) ∧ t.c.n = s.c.n
theorem put6_at {W : World} {b : Nat} {t : Hs} (h : Box6 W b t) (v0 v1 v2 v3 v4 v5 : Value) :
    (put6 W b v0 v1 v2 v3 v4 v5).cell? ⟨b, 0, none⟩ = some v0 ∧ (put6 W b v0 v1 v2 v3 v4 v5).cell? ⟨b, 1, none⟩ = some v1 ∧ (put6 W b v0 v1 v2 v3 v4 v5).cell? ⟨b, 2, none⟩ = some v2 ∧
    (put6 W b v0 v1 v2 v3 v4 v5).cell? ⟨b, 3, none⟩ = some v3 ∧ (put6 W b v0 v1 v2 v3 v4 v5).cell? ⟨b, 4, none⟩ = some v4 ∧ (put6 W b v0 v1 v2 v3 v4 v5).cell? ⟨b, 5, none⟩ = some v5 := by
  have h0 := h.box.c0
  have h1 := h.box.c1
  have h2 := h.box.c2
  have h3 := h.box.c3
  have h4 := h.box.c4
  have h5 := h.box.c5
  refine ⟨?_, ?_, ?_, ?_, ?_, ?_⟩ <;> simp [put6, go_sem, h0, h1, h2, h3, h4, h5]
end Go.Proofs.YtgmkomnoiffapaaGreatDoor
end
section
namespace Go.Proofs.YtgmkomnoiffapaaGreatDoor
open Go.RowKit
set_option maxRecDepth 100000

/-- Another head with as many fields stands at a; all else is as it was. -/
structure Turned (s t : Hs) (d d' : Hd_) (a : Int) : Prop where
  len : Lens s t
  f : d'.f = d.f
  F : d'.F = d.F
  oth : ∀ y, 16 ≤ y → ¬ y = a → wd d' y = wd d y
  w1 : Hd.isWord (wd d' a) = true ∧ wd d' a % 2 = 1
  w2 : Hd.isWord (wd d a) = true ∧ wd d a % 2 = 1
  n : nOf (wd d' a) = nOf (wd d a)
section
variable {s t : Hs} {d d' : Hd_} {a : Int}
theorem Turned.word (h : Turned s t d d' a) {y : Int} (hy : 16 ≤ y) : Hd.isWord (wd d' y) = Hd.isWord (wd d y) ∧ (wd d' y % 2 = 1 ↔ wd d y % 2 = 1) ∧ nOf (wd d' y) = nOf (wd d y) ∧ (wd d' y = 0 ↔ wd d y = 0) := by
  by_cases e : y = a
  · subst e
    have h1 := h.w1
    have h2 := h.w2
    exact ⟨h1.1.trans h2.1.symm, ⟨fun _ => h2.2, fun _ => h1.2⟩, h.n, ⟨fun e => by omega, fun e => by omega⟩⟩
  · rw [h.oth y hy e]
    exact ⟨rfl, Iff.rfl, rfl, Iff.rfl⟩
theorem Turned.cell (h : Turned s t d d' a) {y : Int} (hy : 16 ≤ y) : cellAt d' y = cellAt d y := by
  obtain ⟨h1, h2, h3, _⟩ := h.word hy
  unfold cellAt cellB
  rw [h.f, show d'.ws.getD (y - 16).toNat 0 = wd d' y from rfl, show d.ws.getD (y - 16).toNat 0 = wd d y from rfl]
  by_cases hc : Hd.isWord (wd d y) = true ∧ wd d y % 2 = 1
  · have hc' : Hd.isWord (wd d' y) = true ∧ wd d' y % 2 = 1 := ⟨h1.trans hc.1, h2.2 hc.2⟩
    rw [if_pos hc, if_pos hc', h3]
  · have hc' : ¬ (Hd.isWord (wd d' y) = true ∧ wd d' y % 2 = 1) := fun e => hc ⟨h1.symm.trans e.1, h2.1 e.2⟩
    rw [if_neg hc, if_neg hc', h1]
theorem bg_in16 {f : Nat → Int × Int} {n : Nat} {y : Int} (h : ¬ Cl.bg f n y = 0) : 16 ≤ y :=
  Classical.byContradiction fun hn => h (Cl.bg_no fun e => hn e.2.1)
theorem Turned.freeH (h : Turned s t d d' a) (n : Nat) (y c : Int) : freeH d' n y c = Go.Proofs.YtgmkomnoiffapaaGreatDoor.freeH d n y c := by
  unfold Go.Proofs.YtgmkomnoiffapaaGreatDoor.freeH
  rw [h.f]
  by_cases hb : Cl.bg d.f n y = 0
  · rw [if_pos hb, if_pos hb]
  · rw [if_neg hb, if_neg hb]
    have h4 := (h.word (bg_in16 hb)).2.2.2
    rw [show d'.ws.getD (y - 16).toNat 0 = wd d' y from rfl, show d.ws.getD (y - 16).toNat 0 = wd d y from rfl]
    congr 1
    rw [Bool.eq_iff_iff, beq_iff_eq, beq_iff_eq]
    exact h4
theorem Turned.may (h : Turned s t d d' a) (m : Nat) (F : Nat → Nat → List Int) : mayH t d' m F = mayH s d m F := by
  unfold mayH firstB freeAll
  rw [h.len.1, h.len.2.1, h.len.2.2.2, h.f, h.F, all_congr fun y hy => h.cell (allS_in hy).1]
  simp only [h.freeH]
theorem Turned.may0 (h : Turned s t d d' a) : mayB0 t d' = mayB0 s d := h.may 0 noCaches
theorem Turned.used (h : Turned s t d d' a) : usedL t d' = usedL s d := by
  unfold usedL usedF
  rw [h.may0, h.f, h.len.2.1]
  split
  · refine List.filter_congr fun y hy => ?_
    rw [decide_eq_decide]
    exact (h.word (allS_in hy).1).2.1
  · rfl
theorem Turned.whole (h : Turned s t d d' a) (m : Nat) (F : Nat → Nat → List Int) : wholeH t d' m F = wholeH s d m F := by
  unfold wholeH
  rw [h.may, h.f, h.F, h.len.2.1]
  congr 1
  refine all_congr fun y hy => ?_
  congr 2
  rw [Bool.eq_iff_iff, beq_iff_eq, beq_iff_eq]
  exact (h.word (allS_in hy).1).2.2.2
theorem Turned.headE (h : Turned s t d d' a) (y : Int) : headE t d' y = Go.Proofs.YtgmkomnoiffapaaGreatDoor.headE s d y := by
  unfold Go.Proofs.YtgmkomnoiffapaaGreatDoor.headE
  rw [h.may0, h.f, h.len.2.1]
  by_cases hm : mayB0 s d = false
  · rw [if_pos hm, if_pos hm]
  · rw [if_neg hm, if_neg hm]
    by_cases hb : Cl.bg d.f s.p.n y = 0
    · rw [if_pos (Or.inl hb), if_pos (Or.inl hb)]
    · have h4 := (h.word (bg_in16 hb)).2.2.2
      by_cases hw : wd d y = 0
      · rw [if_pos (Or.inr hw), if_pos (Or.inr (h4.2 hw))]
      · rw [if_neg (by rintro (e | e); exact hb e; exact hw (h4.1 e)), if_neg (by rintro (e | e); exact hb e; exact hw e)]
theorem Turned.headV (h : Turned s t d d' a) {y : Int} (hy : ¬ y = a) : headV t d' y = Go.Proofs.YtgmkomnoiffapaaGreatDoor.headV s d y := by
  unfold Go.Proofs.YtgmkomnoiffapaaGreatDoor.headV
  rw [h.headE]
  split
  · next he =>
    unfold Go.Proofs.YtgmkomnoiffapaaGreatDoor.headE at he
    split at he
    · omega
    · split at he
      · omega
      · next hn => rw [h.oth y (bg_in16 fun e => hn (.inl e)) hy]
  · rfl
end
/-- The heap with the head's word at a. -/
def dSet (d : Hd_) (a : Int) (o e : Bool) (n b m : Int) : Hd_ := ⟨d.ws.set (a - 16).toNat (Hd.word true o e n b m), d.f, d.F, d.cs⟩
end Go.Proofs.YtgmkomnoiffapaaGreatDoor
end
