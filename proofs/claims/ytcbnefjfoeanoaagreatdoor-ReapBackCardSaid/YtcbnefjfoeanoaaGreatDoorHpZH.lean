/-
  Merged texts: HpMayC, Plain, Make.
-/
import Derived.Test.YtcbnefjfoeanoaaGreatDoorZHpMayB
import Derived.Test.YtcbnefjfoeanoaaGreatDoorRows
import Derived.Test.YtcbnefjfoeanoaaGreatDoorHpZA
import Derived.WalkKit
import Derived.Below
import Derived.WalkSmall
import Derived.RegionTactic
import Derived.ChangeAlike
import Derived.Deep.QuietTactic
import Derived.BigQuiet
import Derived.Lib.Hide
import Derived.Lib.SliceRun
import Derived.WalkSpells
section
namespace Go.Proofs.YtcbnefjfoeanoaaGreatDoor
open Go.RowKit

/-- Is all that is told of as free a cell of its class that is not used? -/
def freeAll (d : Hd_) (n N : Nat) (F : Nat → Nat → List Int) : Bool := (List.range N).all fun k => (List.range 3).all fun j => (F k j).all fun x => freeH d n x (j : Nat)
/-- May a heap be, with caches? -/
def mayH (s : Hs) (d : Hd_) (m : Nat) (F : Nat → Nat → List Int) : Bool :=
  firstB s d && ((Cl.allS d.f s.p.n).all (cellAt d) && (freeAll d s.p.n (1 + m) (ahead d.F F) && decide (Ls.allOf (ahead d.F F) (1 + m)).Nodup))
theorem getD_mem {xs : List Int} {q : Nat} (h : q < xs.length) : xs.getD q 0 ∈ xs := by
  have : xs.getD q 0 = xs[q] := by simp [List.getD, h]
  rw [this]
  exact List.getElem_mem h
theorem freeAll_no {d : Hd_} {n N : Nat} {F : Nat → Nat → List Int} {k j q : Nat} (hk : k < N) (hj : j < 3) (hq : q < (F k j).length) (h : freeH d n ((F k j).getD q 0) (j : Nat) = false) : freeAll d n N F = false := by
  cases e : freeAll d n N F
  · rfl
  · have h1 := List.all_eq_true.1 e k (List.mem_range.2 hk)
    have h2 := List.all_eq_true.1 h1 j (List.mem_range.2 hj)
    have h3 := List.all_eq_true.1 h2 _ (getD_mem hq)
    rw [h] at h3
    cases h3
theorem freeAll_yes {d : Hd_} {n N : Nat} {F : Nat → Nat → List Int} (h : ∀ k, k < N → ∀ j, j < 3 → ∀ q, q < (F k j).length → freeH d n ((F k j).getD q 0) (j : Nat) = true) : freeAll d n N F = true := by
  refine List.all_eq_true.2 fun k hk => List.all_eq_true.2 fun j hj => List.all_eq_true.2 fun x hx => ?_
  obtain ⟨q, hq, rfl⟩ := List.getElem_of_mem hx
  have := h k (List.mem_range.1 hk) j (List.mem_range.1 hj) q hq
  rwa [show (F k j).getD q 0 = (F k j)[q] by simp [List.getD, hq]] at this
theorem rmayH_any (s : Hs) (d : Hd_) (A : Option Addr) (m c : Nat) (U : Nat → Nat → Ls.Sl) (F : Nat → Nat → List Int) (w : World) (hp : Hp w w.heap.size s d) (hl : Ls.LRow w w.heap.size A m U F) (hm : m ≤ 1000) (hwn : s.w.n ≤ 4000) (hpn : s.p.n ≤ 1000)
    (hv : ∀ i, -9223372036854775808 ≤ d.ws.getD i 0 ∧ d.ws.getD i 0 ≤ 9223372036854775807) (hlen : (Ls.allOf (ahead d.F F) (1 + m)).length ≤ 2000000) :
    Calls Tryz.prog 39 #[(.agg #[.slice s.w.a s.w.n s.w.c, .slice s.p.a s.p.n s.p.c, .slice (s.u 0).a (s.u 0).n (s.u 0).c, .slice (s.u 1).a (s.u 1).n (s.u 1).c, .slice (s.u 2).a (s.u 2).n (s.u 2).c, .slice s.c.a s.c.n s.c.c]), .slice A m c] w fun e w' => e = .returned (.bool (mayH s d m F)) ∧ Below w.heap.size w w' := by
  cases hf : firstB s d
  · rw [show mayH s d m F = false by simp [mayH, hf]]
    exact rmay_first s d A m c w hp hwn hpn hf
  · have hf' := hf
    unfold firstB at hf'
    simp only [Bool.and_eq_true, decide_eq_true_eq] at hf'
    refine rmay_rest s d A m c U F w hp hl hm hf'.2.2.1 hf'.2.2.2 hf'.2.1 hf'.1 hv hlen _ ?_ ?_ ?_
    · rintro ⟨a, ha, hc⟩
      have : (Cl.allS d.f s.p.n).all (cellAt d) = false := by
        cases e : (Cl.allS d.f s.p.n).all (cellAt d)
        · rfl
        · have := List.all_eq_true.1 e a ha
          rw [hc] at this
          cases this
      simp [mayH, hf, this]
    · rintro ⟨k, j, q, hk, hj, hq, hc⟩
      have := freeAll_no hk hj hq hc
      simp [mayH, hf, this]
    · intro ha hb
      have h1 : (Cl.allS d.f s.p.n).all (cellAt d) = true := List.all_eq_true.2 fun x hx => by
        obtain ⟨q, hq, rfl⟩ := List.getElem_of_mem hx
        have := ha q hq
        rwa [show (Cl.allS d.f s.p.n).getD q 0 = (Cl.allS d.f s.p.n)[q] by simp [List.getD, hq]] at this
      have h2 := freeAll_yes hb
      rw [mayH, hf, h1, h2]
      simp
end Go.Proofs.YtcbnefjfoeanoaaGreatDoor
end
section
namespace Go.Proofs.YtcbnefjfoeanoaaGreatDoor.Ar
open Go.Proofs.YtcbnefjfoeanoaaGreatDoor
set_option maxRecDepth 100000
open Go.RowKit

/-- Words may be. -/
def mayB (n : Nat) : Bool := decide (16 ≤ n ∧ n ≤ 1024 ∧ n % 16 = 0)
theorem mayB_iff {n : Nat} : mayB n = true ↔ 16 ≤ n ∧ n ≤ 1024 ∧ n % 16 = 0 := by simp [mayB]
theorem mayB_no {n : Nat} (h : mayB n = false) : ¬ (16 ≤ n ∧ n ≤ 1024 ∧ n % 16 = 0) := fun c => by rw [mayB_iff.2 c] at h; cases h

theorem may_yes (A : Option Addr) (n c : Nat) (w : World) (h : mayB n = true) :
    Calls Tryz.prog 111 #[.slice A n c] w fun e w' => e = .returned (.bool true) ∧ w = w' := by
  obtain ⟨h1, h2, h3⟩ := mayB_iff.1 h
  have e1 : ((n : Int) % 16 == 0) = true := by simp; omega
  have e2 : (1 : Int) ≤ (n : Int) / 16 := by omega
  have e3 : (n : Int) / 16 ≤ 64 := by omega
  clear h h3
  go_enter Tryz.func111, Tryz.ntmps111
  go_wp2
  go_ret
  exact ⟨rfl, rfl⟩
theorem may_no (A : Option Addr) (n c : Nat) (w : World) (hn : n ≤ 9223372036854775807) (h : mayB n = false) :
    Calls Tryz.prog 111 #[.slice A n c] w fun e w' => e = .returned (.bool false) ∧ w = w' := by
  have h0 := mayB_no h
  clear h
  by_cases h1 : n % 16 = 0
  · have e1 : ((n : Int) % 16 == 0) = true := by simp; omega
    by_cases h2 : n < 16
    · have e2 : decide ((1 : Int) ≤ (n : Int) / 16) = false := by simp; omega
      clear h0 h1 h2
      go_enter Tryz.func111, Tryz.ntmps111
      go_wp2
      go_ret
      exact ⟨rfl, rfl⟩
    · have e2 : (1 : Int) ≤ (n : Int) / 16 := by omega
      have e3 : decide ((n : Int) / 16 ≤ 64) = false := by simp; omega
      clear h0 h1 h2
      go_enter Tryz.func111, Tryz.ntmps111
      go_wp2
      go_ret
      exact ⟨rfl, rfl⟩
  · have e1 : ((n : Int) % 16 == 0) = false := by simp; omega
    clear h0 h1
    go_enter Tryz.func111, Tryz.ntmps111
    go_wp2
    go_ret
    exact ⟨rfl, rfl⟩

theorem span_bad (A : Option Addr) (n c : Nat) (a k : Int) (w : World) (hn : n ≤ 9223372036854775807) (h : mayB n = false) :
    Calls Tryz.prog 101 #[.slice A n c, .int .i64 a, .int .i64 k] w fun e w' => e = .returned (.tuple #[.int .i64 0, .int .i64 0, .int .i64 1]) ∧ w = w' := by
  have H := Lib.hid h
  clear h
  go_enter Tryz.func101, Tryz.ntmps101
  go_wp2_with (go_at_call 111; refine (may_no _ _ _ _ hn H.out).mono ?_; rintro e w' ⟨rfl, rfl⟩)
  go_ret3
  exact ⟨rfl, rfl⟩
theorem span_neg (A : Option Addr) (n c : Nat) (a k : Int) (w : World) (h : mayB n = true) (hk : k < 0) :
    Calls Tryz.prog 101 #[.slice A n c, .int .i64 a, .int .i64 k] w fun e w' => e = .returned (.tuple #[.int .i64 0, .int .i64 0, .int .i64 1]) ∧ w = w' := by
  have H := Lib.hid h
  clear h
  go_enter Tryz.func101, Tryz.ntmps101
  go_wp2_with (go_at_call 111; refine (may_yes _ _ _ _ H.out).mono ?_; rintro e w' ⟨rfl, rfl⟩)
  go_ret3
  exact ⟨rfl, rfl⟩
theorem span_zero (A : Option Addr) (n c : Nat) (a : Int) (w : World) (h : mayB n = true) :
    Calls Tryz.prog 101 #[.slice A n c, .int .i64 a, .int .i64 0] w fun e w' => e = .returned (.tuple #[.int .i64 0, .int .i64 0, .int .i64 0]) ∧ w = w' := by
  have H := Lib.hid h
  clear h
  go_enter Tryz.func101, Tryz.ntmps101
  go_wp2_with (go_at_call 111; refine (may_yes _ _ _ _ H.out).mono ?_; rintro e w' ⟨rfl, rfl⟩)
  go_ret3
  exact ⟨rfl, rfl⟩
theorem span_none (A : Option Addr) (n c : Nat) (a k : Int) (w : World) (h : mayB n = true) (hk : 0 < k) (ha : a < 16 ∨ 16 + n - a < k) (_hi : a ≤ 9223372036854775807) :
    Calls Tryz.prog 101 #[.slice A n c, .int .i64 a, .int .i64 k] w fun e w' => e = .returned (.tuple #[.int .i64 0, .int .i64 0, .int .i64 3]) ∧ w = w' := by
  have hn := (mayB_iff.1 h).2.1
  have e0 : (k == 0) = false := by simp; omega
  have e1 : ¬ k < 0 := by omega
  have H := Lib.hid h
  clear h
  by_cases h16 : a < 16
  · clear ha
    go_enter Tryz.func101, Tryz.ntmps101
    go_wp2_with (go_at_call 111; refine (may_yes _ _ _ _ H.out).mono ?_; rintro e w' ⟨rfl, rfl⟩)
    go_ret3
    exact ⟨rfl, rfl⟩
  · have hb : 16 + (n : Int) - a < k := by omega
    have ha0 : 16 ≤ a := by omega
    clear ha
    go_enter Tryz.func101, Tryz.ntmps101
    go_wp2_with (go_at_call 111; refine (may_yes _ _ _ _ H.out).mono ?_; rintro e w' ⟨rfl, rfl⟩)
    go_ret3
    exact ⟨rfl, rfl⟩
theorem span_ok (A : Option Addr) (n c : Nat) (a k : Int) (w : World) (h : mayB n = true) (hk : 0 < k) (ha : 16 ≤ a) (hb : k ≤ 16 + n - a) :
    Calls Tryz.prog 101 #[.slice A n c, .int .i64 a, .int .i64 k] w fun e w' => e = .returned (.tuple #[.int .i64 (a - 16), .int .i64 (a - 16 + k), .int .i64 0]) ∧ w = w' := by
  have hn := (mayB_iff.1 h).2.1
  have e0 : (k == 0) = false := by simp; omega
  have e1 : ¬ k < 0 := by omega
  have H := Lib.hid h
  clear h
  go_enter Tryz.func101, Tryz.ntmps101
  go_wp2_with (go_at_call 111; refine (may_yes _ _ _ _ H.out).mono ?_; rintro e w' ⟨rfl, rfl⟩)
  go_ret3
  exact ⟨rfl, rfl⟩

theorem get_bad (A : Option Addr) (n c : Nat) (a : Int) (w : World) (hn : n ≤ 9223372036854775807) (h : mayB n = false) :
    Calls Tryz.prog 61 #[.slice A n c, .int .i64 a] w fun e w' => e = .returned (.tuple #[.int .i64 0, .int .i64 1]) ∧ w = w' := by
  have H := Lib.hid h
  clear h
  go_enter Tryz.func61, Tryz.ntmps61
  go_wp2_with (go_at_call 101; refine (span_bad _ _ _ _ _ _ hn H.out).mono ?_; rintro e w' ⟨rfl, rfl⟩)
  go_ret2
  exact ⟨rfl, rfl⟩
theorem get_none (A : Option Addr) (n c : Nat) (a : Int) (w : World) (h : mayB n = true) (ha : a < 16 ∨ 16 + n ≤ a) (hi : a ≤ 9223372036854775807) :
    Calls Tryz.prog 61 #[.slice A n c, .int .i64 a] w fun e w' => e = .returned (.tuple #[.int .i64 0, .int .i64 3]) ∧ w = w' := by
  have H := Lib.hid h
  clear h
  have HA := Lib.hid ha
  clear ha
  go_enter Tryz.func61, Tryz.ntmps61
  go_wp2_with (go_at_call 101; refine (span_none _ _ _ _ _ _ H.out (by omega) (by have := HA.out; omega) hi).mono ?_; rintro e w' ⟨rfl, rfl⟩)
  go_ret2
  exact ⟨rfl, rfl⟩

theorem page_bad (A : Option Addr) (n c : Nat) (a : Int) (w : World) (hn : n ≤ 9223372036854775807) (h : mayB n = false) :
    Calls Tryz.prog 65 #[.slice A n c, .int .i64 a] w fun e w' => e = .returned (.tuple #[.int .i64 0, .int .i64 1]) ∧ w = w' := by
  have H := Lib.hid h
  clear h
  go_enter Tryz.func65, Tryz.ntmps65
  go_wp2_with (go_at_call 101; refine (span_bad _ _ _ _ _ _ hn H.out).mono ?_; rintro e w' ⟨rfl, rfl⟩)
  go_ret2
  exact ⟨rfl, rfl⟩
theorem page_none (A : Option Addr) (n c : Nat) (a : Int) (w : World) (h : mayB n = true) (ha : a < 16 ∨ 16 + n ≤ a) (hi : a ≤ 9223372036854775807) :
    Calls Tryz.prog 65 #[.slice A n c, .int .i64 a] w fun e w' => e = .returned (.tuple #[.int .i64 0, .int .i64 3]) ∧ w = w' := by
  have H := Lib.hid h
  clear h
  have HA := Lib.hid ha
  clear ha
  go_enter Tryz.func65, Tryz.ntmps65
  go_wp2_with (go_at_call 101; refine (span_none _ _ _ _ _ _ H.out (by omega) (by have := HA.out; omega) hi).mono ?_; rintro e w' ⟨rfl, rfl⟩)
  go_ret2
  exact ⟨rfl, rfl⟩
theorem get_ok (B : Nat) (A : Option Addr) (n c : Nat) (xs : List Int) (a : Int) (w : World) (h : mayB n = true) (h0 : 16 ≤ a) (h1 : a < 16 + n) (hr : Row w B A n xs) :
    Calls Tryz.prog 61 #[.slice A n c, .int .i64 a] w fun e w' => e = .returned (.tuple #[.int .i64 (xs.getD (a - 16).toNat 0), .int .i64 0]) ∧ w = w' := by
  obtain ⟨i, rfl⟩ : ∃ i : Nat, a = 16 + i := ⟨(a - 16).toNat, by omega⟩
  have hn := (mayB_iff.1 h).2.1
  have hi : i < n := by omega
  obtain ⟨b, off, rfl, _, hc⟩ := hr.2 (by omega)
  have hcell := hc i hi
  have ei : (16 + (i : Int) - 16).toNat = i := by omega
  rw [ei]
  have EI : (16 : Int) + i - 16 = i := by omega
  have H := Lib.hid h
  clear h hc hr ei
  have HS : Calls Tryz.prog 101 #[.slice (some ⟨b, off, none⟩) n c, .int .i64 (16 + i), .int .i64 1] w fun e w' => e = .returned (.tuple #[.int .i64 i, .int .i64 (i + 1), .int .i64 0]) ∧ w = w' := by
    have := span_ok (some ⟨b, off, none⟩) n c (16 + i) 1 w H.out (by omega) (by omega) (by omega)
    rw [EI] at this
    exact this
  have HT := Lib.hid HS
  clear EI HS h0 h1
  go_enter Tryz.func61, Tryz.ntmps61
  go_wp2_with (go_at_call 101; refine (HT.out).mono ?_; rintro e w' ⟨rfl, rfl⟩)
  go_ret2
  exact ⟨rfl, rfl⟩
theorem page_ok (A : Option Addr) (n c : Nat) (a : Int) (w : World) (h : mayB n = true) (h0 : 16 ≤ a) (h1 : a < 16 + n) :
    Calls Tryz.prog 65 #[.slice A n c, .int .i64 a] w fun e w' => e = .returned (.tuple #[.int .i64 ((a - 16) / 16), .int .i64 0]) ∧ w = w' := by
  have hn := (mayB_iff.1 h).2.1
  have H := Lib.hid h
  clear h
  go_enter Tryz.func65, Tryz.ntmps65
  go_wp2_with (go_at_call 101; refine (span_ok _ _ _ _ _ _ H.out (by omega) (by omega) (by omega)).mono ?_; rintro e w' ⟨rfl, rfl⟩)
  go_ret2
  exact ⟨rfl, rfl⟩

theorem at_bad (A : Option Addr) (n c : Nat) (p : Int) (w : World) (hn : n ≤ 9223372036854775807) (h : mayB n = false) :
    Calls Tryz.prog 105 #[.slice A n c, .int .i64 p] w fun e w' => e = .returned (.tuple #[.int .i64 0, .int .i64 1]) ∧ w = w' := by
  have H := Lib.hid h
  clear h
  go_enter Tryz.func105, Tryz.ntmps105
  go_wp2_with (go_at_call 111; refine (may_no _ _ _ _ hn H.out).mono ?_; rintro e w' ⟨rfl, rfl⟩)
  go_ret2
  exact ⟨rfl, rfl⟩
theorem at_none (A : Option Addr) (n c : Nat) (p : Int) (w : World) (h : mayB n = true) (hp : p < 0 ∨ (n : Int) ≤ 16 * p) :
    Calls Tryz.prog 105 #[.slice A n c, .int .i64 p] w fun e w' => e = .returned (.tuple #[.int .i64 0, .int .i64 3]) ∧ w = w' := by
  have hn := (mayB_iff.1 h)
  by_cases h0 : p < 0
  · have H := Lib.hid h
    clear h hp hn
    go_enter Tryz.func105, Tryz.ntmps105
    go_wp2_with (go_at_call 111; refine (may_yes _ _ _ _ H.out).mono ?_; rintro e w' ⟨rfl, rfl⟩)
    go_ret2
    exact ⟨rfl, rfl⟩
  · have h1 : (n : Int) / 16 ≤ p := by omega
    have h2 : 0 ≤ p := by omega
    have h3 : n ≤ 1024 := hn.2.1
    have H := Lib.hid h
    clear h hp hn h0
    go_enter Tryz.func105, Tryz.ntmps105
    go_wp2_with (go_at_call 111; refine (may_yes _ _ _ _ H.out).mono ?_; rintro e w' ⟨rfl, rfl⟩)
    go_ret2
    exact ⟨rfl, rfl⟩
theorem at_ok (A : Option Addr) (n c : Nat) (p : Int) (w : World) (h : mayB n = true) (h0 : 0 ≤ p) (h1 : 16 * p < n) :
    Calls Tryz.prog 105 #[.slice A n c, .int .i64 p] w fun e w' => e = .returned (.tuple #[.int .i64 (16 + p * 16), .int .i64 0]) ∧ w = w' := by
  have hn := (mayB_iff.1 h)
  have h3 : p < (n : Int) / 16 := by omega
  have h4 : n ≤ 1024 := hn.2.1
  have H := Lib.hid h
  clear h hn
  go_enter Tryz.func105, Tryz.ntmps105
  go_wp2_with (go_at_call 111; refine (may_yes _ _ _ _ H.out).mono ?_; rintro e w' ⟨rfl, rfl⟩)
  go_ret2
  exact ⟨rfl, rfl⟩
end Go.Proofs.YtcbnefjfoeanoaaGreatDoor.Ar
end
section
namespace Go.Proofs.YtcbnefjfoeanoaaGreatDoor.Ar
open Go.Proofs.YtcbnefjfoeanoaaGreatDoor
set_option maxRecDepth 100000
open Go.RowKit

theorem info_int : (Tryz.prog.info? 3).map (fun i => (i.zero, i.size, i.bytes)) = some (some (.int .i64 0), 1, 8) := by kernel_rfl
theorem zero_int (w : World) : (zeroValue 3).run Tryz.prog w = .ok (.int .i64 0) w := by kernel_rfl

/-- A slice of the call's own was returned, and no error; all that was there is as it was. -/
def Made (w : World) (n : Nat) (xs : List Int) (e : Ending) (w' : World) : Prop :=
  ∃ g c, e = .returned (.tuple #[.slice (some ⟨g, 0, none⟩) n c, .int .i64 0]) ∧ Mine w' w.heap.size 3 g n c xs ∧ Below w.heap.size w w'
/-- .. alone. -/
def MadeOne (w : World) (n : Nat) (xs : List Int) (e : Ending) (w' : World) : Prop :=
  ∃ g c, e = .returned (.slice (some ⟨g, 0, none⟩) n c) ∧ Mine w' w.heap.size 3 g n c xs ∧ Below w.heap.size w w'

theorem clone_ok (B : Nat) (A : Option Addr) (n c : Nat) (xs : List Int) (w : World) (hn : 0 < n) (hbig : n * 8 ≤ 140737488355328) (hr : Row w B A n xs) :
    Calls Tryz.prog 80 #[.slice A n c] w (MadeOne w n xs) := by
  obtain ⟨i0, hi, hz0, hz1, hz2⟩ := info_parts info_int
  obtain ⟨b, off, rfl, _, hc⟩ := hr.2 hn
  have hl := hr.1
  have HC := Lib.hid hc
  have q22 : ∀ (w : World) (a : Option Addr) (n c n' c' : Nat), (binOp .eql 22 (.slice a n c) (.slice none n' c')).run Tryz.prog w = .ok (.bool a.isNone) w := fun w a n c n' c' => Lib.run_eql_slice_nil w _ _ a n c n' c' Tryz.underlying22
  have u22 : ∀ w, Sem.run Tryz.prog (underlying 22) w = .ok (TypeDesc.slice 3) w := run_underlying Tryz.underlying22
  have HL := Lib.hid hl
  clear hc hr hl
  go_enter Tryz.func80, Tryz.ntmps80
  go_wp2_with (at_builtin; refine wpList_append_own _ rfl _ _ 22 rfl w.heap.size 3 i0 (.int .i64 0) 1 8 Tryz.underlying22 hi hz0 hz1 hz2 rfl (by decide) _ _ _ rfl (World.ownsRow_made w #[] 0 (Nat.le_refl _) (Nat.zero_le _) rfl) ⟨b, off, none⟩ n c (xs.map (Value.int .i64)) rfl ?qc1 ?qc2 ?qc3 ?qc4 ?qc5 ?qc6 ?_)
  case qc1 => simp [HL.out]
  case qc2 =>
    intro j u hj
    have hl := HL.out
    have hjn : j < n := by
      have := (List.getElem?_eq_some_iff.1 hj).1
      simp at this
      omega
    rw [Addr.add_lit]
    refine Lib.cell?_alloc_some _ ?_
    rw [HC.out j hjn]
    have e : (xs.map (Value.int .i64))[j]? = some (Value.int .i64 (xs.getD j 0)) := by simp [List.getD, List.getElem?_eq_getElem (show j < xs.length by omega)]
    rw [e] at hj
    exact hj
  case qc3 => intro u hu; obtain ⟨x, _, rfl⟩ := List.mem_map.1 hu; rfl
  case qc4 => unfold maxLen; omega
  case qc5 => omega
  case qc6 => simp
  intro v' w1 hown hgrow hnil
  have hown' : w1.ownsRow w.heap.size 3 1 v' n (xs.map (Value.int .i64)) := by simpa using hown
  obtain ⟨g, c', rfl, hm⟩ := mine_of hown' hn
  have HM := Lib.hid hm
  clear hown hown' hnil hm
  go_wp2
  go_ret
  exact ⟨g, c', rfl, HM.out, ((Below.refl _ w).alloc (Nat.le_refl _) _).grown hgrow (by simp) (by intro k hk; simp [Value.ownBlock] at hk; omega)⟩

theorem new_bad (p : Int) (w : World) (h : p < 1 ∨ 64 < p) :
    Calls Tryz.prog 73 #[.int .i64 p] w fun e w' => e = .returned (.tuple #[.slice none 0 0, .int .i64 1]) ∧ w = w' := by
  by_cases h0 : p < 1
  · clear h
    go_enter Tryz.func73, Tryz.ntmps73
    go_wp2
    go_ret2
    exact ⟨rfl, rfl⟩
  · have h1 : 64 < p := by omega
    have h2 : 1 ≤ p := by omega
    clear h h0
    go_enter Tryz.func73, Tryz.ntmps73
    go_wp2
    go_ret2
    exact ⟨rfl, rfl⟩
theorem new_ok (p : Int) (w : World) (h0 : 1 ≤ p) (h1 : p ≤ 64) :
    Calls Tryz.prog 73 #[.int .i64 p] w (Made w (p * 16).toNat (List.replicate (p * 16).toNat 0)) := by
  obtain ⟨i0, hi, hz0, hz1, hz2⟩ := info_parts info_int
  go_enter Tryz.func73, Tryz.ntmps73
  go_wp2_with (at_make; refine wpList_make_full _ rfl _ _ 22 rfl w.heap.size 3 i0 (.int .i64 0) 1 Tryz.underlying22 hi hz0 hz1 .i64 .i64 (p * 16) (p * 16) (p * 16).toNat rfl rfl ?c1 ?c2 ?c3 ?c4 ?c5 ?_)
  case c1 => omega
  case c2 => omega
  case c3 => rw [hz2]; omega
  case c4 => unfold maxLen; omega
  case c5 => simp
  intro w1 hown hgrow
  have hown' : w1.ownsRow w.heap.size 3 1 (.slice (some ⟨w.heap.size, 0, none⟩) (p * 16).toNat (p * 16).toNat) (p * 16).toNat ((List.replicate (p * 16).toNat (0 : Int)).map (Value.int .i64)) := by
    have e : (madeCells #[Value.int .i64 0] (p * 16).toNat).toList = (List.replicate (p * 16).toNat (0 : Int)).map (Value.int .i64) := by
      rw [List.map_replicate]
      exact toList_madeCells_one _ _
    rw [← e]
    exact hown
  obtain ⟨g, c, e, hm⟩ := mine_of hown' (by omega)
  have HM := Lib.hid hm
  have HE := Lib.hid e
  clear hown hown' e hm
  go_wp2
  go_ret2
  refine ⟨g, c, ?_, HM.out, (Below.refl _ w).grown hgrow (Nat.le_refl _) (by intro k hk; cases hk)⟩
  rw [HE.out]
  rfl

theorem put_bad (A : Option Addr) (n c : Nat) (a v : Int) (w : World) (hn : n ≤ 9223372036854775807) (h : mayB n = false) :
    Calls Tryz.prog 87 #[.slice A n c, .int .i64 a, .int .i64 v] w fun e w' => e = .returned (.tuple #[.slice none 0 0, .int .i64 1]) ∧ w = w' := by
  have H := Lib.hid h
  clear h
  go_enter Tryz.func87, Tryz.ntmps87
  go_wp2_with (go_at_call 101; refine (span_bad _ _ _ _ _ _ hn H.out).mono ?_; rintro e w' ⟨rfl, rfl⟩)
  go_ret2
  exact ⟨rfl, rfl⟩
theorem put_none (A : Option Addr) (n c : Nat) (a v : Int) (w : World) (h : mayB n = true) (ha : a < 16 ∨ 16 + n ≤ a) (hi : a ≤ 9223372036854775807) :
    Calls Tryz.prog 87 #[.slice A n c, .int .i64 a, .int .i64 v] w fun e w' => e = .returned (.tuple #[.slice none 0 0, .int .i64 3]) ∧ w = w' := by
  have H := Lib.hid h
  clear h
  have HA := Lib.hid ha
  clear ha
  go_enter Tryz.func87, Tryz.ntmps87
  go_wp2_with (go_at_call 101; refine (span_none _ _ _ _ _ _ H.out (by omega) (by have := HA.out; omega) hi).mono ?_; rintro e w' ⟨rfl, rfl⟩)
  go_ret2
  exact ⟨rfl, rfl⟩

theorem zero_bad (A : Option Addr) (n c : Nat) (a k : Int) (w : World) (hn : n ≤ 9223372036854775807) (h : mayB n = false) :
    Calls Tryz.prog 64 #[.slice A n c, .int .i64 a, .int .i64 k] w fun e w' => e = .returned (.tuple #[.slice none 0 0, .int .i64 1]) ∧ w = w' := by
  have H := Lib.hid h
  clear h
  go_enter Tryz.func64, Tryz.ntmps64
  go_wp2_with (go_at_call 101; refine (span_bad _ _ _ _ _ _ hn H.out).mono ?_; rintro e w' ⟨rfl, rfl⟩)
  go_ret2
  exact ⟨rfl, rfl⟩
theorem zero_none (A : Option Addr) (n c : Nat) (a k : Int) (w : World) (h : mayB n = true) (hk : 0 < k) (ha : a < 16 ∨ 16 + n - a < k) (hi : a ≤ 9223372036854775807) :
    Calls Tryz.prog 64 #[.slice A n c, .int .i64 a, .int .i64 k] w fun e w' => e = .returned (.tuple #[.slice none 0 0, .int .i64 3]) ∧ w = w' := by
  have H := Lib.hid h
  clear h
  have HA := Lib.hid ha
  clear ha
  go_enter Tryz.func64, Tryz.ntmps64
  go_wp2_with (go_at_call 101; refine (span_none _ _ _ _ _ _ H.out (by omega) (by have := HA.out; omega) hi).mono ?_; rintro e w' ⟨rfl, rfl⟩)
  go_ret2
  exact ⟨rfl, rfl⟩
theorem zero_neg (A : Option Addr) (n c : Nat) (a k : Int) (w : World) (h : mayB n = true) (hk : k < 0) :
    Calls Tryz.prog 64 #[.slice A n c, .int .i64 a, .int .i64 k] w fun e w' => e = .returned (.tuple #[.slice none 0 0, .int .i64 1]) ∧ w = w' := by
  have H := Lib.hid h
  clear h
  go_enter Tryz.func64, Tryz.ntmps64
  go_wp2_with (go_at_call 101; refine (span_neg _ _ _ _ _ _ H.out hk).mono ?_; rintro e w' ⟨rfl, rfl⟩)
  go_ret2
  exact ⟨rfl, rfl⟩
theorem put_ok (B : Nat) (A : Option Addr) (n c : Nat) (xs : List Int) (a v : Int) (w : World) (h : mayB n = true) (h0 : 16 ≤ a) (h1 : a < 16 + n) (hr : Row w B A n xs) :
    Calls Tryz.prog 87 #[.slice A n c, .int .i64 a, .int .i64 v] w (Made w n (xs.set (a - 16).toNat v)) := by
  obtain ⟨i, rfl⟩ : ∃ i : Nat, a = 16 + i := ⟨(a - 16).toNat, by omega⟩
  have hn := (mayB_iff.1 h).2.1
  have hi : i < n := by omega
  have ei : (16 + (i : Int) - 16).toNat = i := by omega
  rw [ei]
  have EI : (16 : Int) + i - 16 = i := by omega
  have H := Lib.hid h
  have HR := Lib.hid hr
  clear h ei hr
  have HS : Calls Tryz.prog 101 #[.slice A n c, .int .i64 (16 + i), .int .i64 1] w fun e w' => e = .returned (.tuple #[.int .i64 i, .int .i64 (i + 1), .int .i64 0]) ∧ w = w' := by
    have := span_ok A n c (16 + i) 1 w H.out (by omega) (by omega) (by omega)
    rw [EI] at this
    exact this
  have HT := Lib.hid HS
  clear EI HS h0 h1
  go_enter Tryz.func87, Tryz.ntmps87
  go_wp2_with fail
  refine (HT.out).mono ?_
  rintro e w' ⟨rfl, rfl⟩
  go_wp2_with fail
  refine (clone_ok _ _ _ _ _ _ (by omega) (by omega) HR.out).mono ?_
  rintro e w1 ⟨g, c', rfl, hm, hb⟩
  have HM := Lib.hid hm
  have hcell := hm.cell i hi
  have hfree := hm.free i
  have hsz := hm.2.2.1
  have hg := hm.2.1
  clear hm
  go_wp2
  go_ret2
  exact ⟨g, c', rfl, HM.out.stored i v, hb.setCell (by simpa using hg) _⟩
end Go.Proofs.YtcbnefjfoeanoaaGreatDoor.Ar
end
