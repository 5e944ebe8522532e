/-
  The reference of package arena: each call returns what the package's own does, by cases: May, Is, Get, Put, Zero, Page, At.
-/
import Derived.Test.YtndjocfnepikhaaCopied
import Derived.Test.YtndjocfnepikhaaZero
namespace Go.Proofs.Ytndjocfnepikhaa
open Go.RowKit

theorem rmay_yes (A : Option Addr) (n c : Nat) (w : World) (h : mayB n = true) :
    Calls Try.prog 23 #[.slice A n c] w fun e w' => e = .returned (.bool true) ∧ w = w' := by
  obtain ⟨h1, h2, h3⟩ := mayB_iff.1 h
  have e1 : ((n : Int) % 16 == 0) = true := by simp; omega
  clear h h3
  go_enter Try.func23, Try.ntmps23
  go_wp2
  go_ret
  exact ⟨rfl, rfl⟩
theorem rmay_no (A : Option Addr) (n c : Nat) (w : World) (hn : n ≤ 9223372036854775807) (h : mayB n = false) :
    Calls Try.prog 23 #[.slice A n c] w fun e w' => e = .returned (.bool false) ∧ w = w' := by
  have h0 := mayB_no h
  clear h
  by_cases h1 : 16 ≤ n
  · by_cases h2 : n ≤ 1024
    · have e1 : ((n : Int) % 16 == 0) = false := by simp; omega
      clear h0
      go_enter Try.func23, Try.ntmps23
      go_wp2
      go_ret
      exact ⟨rfl, rfl⟩
    · clear h0
      go_enter Try.func23, Try.ntmps23
      go_wp2
      go_ret
      exact ⟨rfl, rfl⟩
  · clear h0
    go_enter Try.func23, Try.ntmps23
    go_wp2
    go_ret
    exact ⟨rfl, rfl⟩
theorem ris_yes (A : Option Addr) (n c : Nat) (a : Int) (w : World) (hn : n ≤ 1024) (h0 : 16 ≤ a) (h1 : a < 16 + n) :
    Calls Try.prog 27 #[.slice A n c, .int .i64 a] w fun e w' => e = .returned (.bool true) ∧ w = w' := by
  go_enter Try.func27, Try.ntmps27
  go_wp2
  go_ret
  exact ⟨rfl, rfl⟩
theorem ris_no (A : Option Addr) (n c : Nat) (a : Int) (w : World) (hn : n ≤ 1024) (h : a < 16 ∨ 16 + n ≤ a) :
    Calls Try.prog 27 #[.slice A n c, .int .i64 a] w fun e w' => e = .returned (.bool false) ∧ w = w' := by
  by_cases h0 : a < 16
  · clear h
    go_enter Try.func27, Try.ntmps27
    go_wp2
    go_ret
    exact ⟨rfl, rfl⟩
  · have h1 : 16 + (n : Int) ≤ a := by omega
    have h2 : 16 ≤ a := by omega
    have e : decide (a < 16 + (n : Int)) = false := by simp; omega
    clear h h0
    go_enter Try.func27, Try.ntmps27
    go_wp2
    go_ret
    exact ⟨rfl, rfl⟩

theorem rget_bad (A : Option Addr) (n c : Nat) (a : Int) (w : World) (hn : n ≤ 9223372036854775807) (h : mayB n = false) :
    Calls Try.prog 12 #[.slice A n c, .int .i64 a] w fun e w' => e = .returned (.tuple #[.int .i64 0, .int .i64 1]) ∧ w = w' := by
  have H := Lib.hid h
  clear h
  go_enter Try.func12, Try.ntmps12
  go_wp2_with fail
  refine (rmay_no _ _ _ _ hn H.out).mono ?_
  rintro e w' ⟨rfl, rfl⟩
  go_wp2
  go_ret2
  exact ⟨rfl, rfl⟩
theorem rget_none (A : Option Addr) (n c : Nat) (a : Int) (w : World) (h : mayB n = true) (ha : a < 16 ∨ 16 + n ≤ a) :
    Calls Try.prog 12 #[.slice A n c, .int .i64 a] w fun e w' => e = .returned (.tuple #[.int .i64 0, .int .i64 3]) ∧ w = w' := by
  obtain ⟨m0, m1, m2⟩ := mayB_iff.1 h
  clear m2
  have H := Lib.hid h
  clear h
  have HA := Lib.hid ha
  clear ha
  go_enter Try.func12, Try.ntmps12
  go_wp2_with fail
  refine (rmay_yes _ _ _ _ H.out).mono ?_
  rintro e w' ⟨rfl, rfl⟩
  go_wp2_with fail
  refine (ris_no _ _ _ _ _ m1 HA.out).mono ?_
  rintro e w' ⟨rfl, rfl⟩
  go_wp2
  go_ret2
  exact ⟨rfl, rfl⟩
theorem rget_ok (B : Nat) (A : Option Addr) (n c : Nat) (xs : List Int) (a : Int) (w : World) (h : mayB n = true) (h0 : 16 ≤ a) (h1 : a < 16 + n) (hr : Row w B A n xs) :
    Calls Try.prog 12 #[.slice A n c, .int .i64 a] w fun e w' => e = .returned (.tuple #[.int .i64 (xs.getD (a - 16).toNat 0), .int .i64 0]) ∧ w = w' := by
  obtain ⟨i, rfl⟩ : ∃ i : Nat, a = 16 + i := ⟨(a - 16).toNat, by omega⟩
  obtain ⟨m0, m1, m2⟩ := mayB_iff.1 h
  clear m2
  have hi : i < n := by omega
  obtain ⟨b, off, rfl, _, hc⟩ := hr.2 (by omega)
  have hcell := hc i hi
  have ei : (16 + (i : Int) - 16).toNat = i := by omega
  rw [ei]
  have H := Lib.hid h
  clear h
  clear hc hr ei
  go_enter Try.func12, Try.ntmps12
  go_wp2_with fail
  refine (rmay_yes _ _ _ _ H.out).mono ?_
  rintro e w' ⟨rfl, rfl⟩
  go_wp2_with fail
  refine (ris_yes _ _ _ _ _ m1 h0 h1).mono ?_
  rintro e w' ⟨rfl, rfl⟩
  go_wp2
  go_ret2
  exact ⟨rfl, rfl⟩

theorem rput_bad (A : Option Addr) (n c : Nat) (a v : Int) (w : World) (hn : n ≤ 9223372036854775807) (h : mayB n = false) :
    Calls Try.prog 14 #[.slice A n c, .int .i64 a, .int .i64 v] w fun e w' => e = .returned (.tuple #[.slice none 0 0, .int .i64 1]) ∧ w = w' := by
  have H := Lib.hid h
  clear h
  go_enter Try.func14, Try.ntmps14
  go_wp2_with fail
  refine (rget_bad _ _ _ _ _ hn H.out).mono ?_
  rintro e w' ⟨rfl, rfl⟩
  go_wp2
  go_ret2
  exact ⟨rfl, rfl⟩
theorem rput_none (A : Option Addr) (n c : Nat) (a v : Int) (w : World) (h : mayB n = true) (ha : a < 16 ∨ 16 + n ≤ a) :
    Calls Try.prog 14 #[.slice A n c, .int .i64 a, .int .i64 v] w fun e w' => e = .returned (.tuple #[.slice none 0 0, .int .i64 3]) ∧ w = w' := by
  have H := Lib.hid h
  clear h
  have HA := Lib.hid ha
  clear ha
  go_enter Try.func14, Try.ntmps14
  go_wp2_with fail
  refine (rget_none _ _ _ _ _ H.out HA.out).mono ?_
  rintro e w' ⟨rfl, rfl⟩
  go_wp2
  go_ret2
  exact ⟨rfl, rfl⟩
theorem rput_ok (B : Nat) (A : Option Addr) (n c : Nat) (xs : List Int) (a v : Int) (w : World) (h : mayB n = true) (h0 : 16 ≤ a) (h1 : a < 16 + n) (hr : Row w B A n xs) :
    Calls Try.prog 14 #[.slice A n c, .int .i64 a, .int .i64 v] w (Made w n (xs.set (a - 16).toNat v)) := by
  obtain ⟨i, rfl⟩ : ∃ i : Nat, a = 16 + i := ⟨(a - 16).toNat, by omega⟩
  obtain ⟨m0, m1, m2⟩ := mayB_iff.1 h
  clear m2
  have hi : i < n := by omega
  have ei : (16 + (i : Int) - 16).toNat = i := by omega
  have HE := Lib.hid ei
  rw [ei]
  have H := Lib.hid h
  clear h
  have HR := Lib.hid hr
  clear hr ei
  go_enter Try.func14, Try.ntmps14
  go_wp2_with fail
  refine (rget_ok _ _ _ _ _ _ _ H.out h0 h1 HR.out).mono ?_
  rintro e w' ⟨rfl, rfl⟩
  go_wp2_with (at_builtin; refine wpList_copied rfl _ _ rfl rfl _ _ n c xs rfl HR.out ?n0 ?n1 ?_)
  case n0 => omega
  case n1 => omega
  intro g c' w1 hm hb
  have HM := Lib.hid hm
  have hcell := hm.cell i hi
  have hfree := hm.free i
  have hsz := hm.2.2.1
  have hg := hm.2.1
  clear hm
  go_wp2
  go_ret2
  exact ⟨g, c', rfl, HM.out.stored i v, hb.setCell (by simpa using hg) _⟩

theorem rzero_bad (A : Option Addr) (n c : Nat) (a k : Int) (w : World) (hn : n ≤ 9223372036854775807) (h : mayB n = false) :
    Calls Try.prog 17 #[.slice A n c, .int .i64 a, .int .i64 k] w fun e w' => e = .returned (.tuple #[.slice none 0 0, .int .i64 1]) ∧ w = w' := by
  have H := Lib.hid h
  clear h
  go_enter Try.func17, Try.ntmps17
  go_wp2_with fail
  refine (rmay_no _ _ _ _ hn H.out).mono ?_
  rintro e w' ⟨rfl, rfl⟩
  go_wp2
  go_ret2
  exact ⟨rfl, rfl⟩
theorem rzero_neg (A : Option Addr) (n c : Nat) (a k : Int) (w : World) (h : mayB n = true) (hk : k < 0) :
    Calls Try.prog 17 #[.slice A n c, .int .i64 a, .int .i64 k] w fun e w' => e = .returned (.tuple #[.slice none 0 0, .int .i64 1]) ∧ w = w' := by
  have H := Lib.hid h
  clear h
  go_enter Try.func17, Try.ntmps17
  go_wp2_with fail
  refine (rmay_yes _ _ _ _ H.out).mono ?_
  rintro e w' ⟨rfl, rfl⟩
  go_wp2
  go_ret2
  exact ⟨rfl, rfl⟩
theorem rzero_out (B : Nat) (A : Option Addr) (n c : Nat) (xs : List Int) (a k : Int) (w : World) (h : mayB n = true) (hk : 0 < k) (ha : a < 16 ∨ 16 + n ≤ a) (hr : Row w B A n xs) (l1 : -9223372036854775808 ≤ a) (l2 : a ≤ 9223372036854775807) :
    Calls Try.prog 17 #[.slice A n c, .int .i64 a, .int .i64 k] w fun e w' => e = .returned (.tuple #[.slice none 0 0, .int .i64 3]) ∧ Below w.heap.size w w' := by
  obtain ⟨m0, m1, m2⟩ := mayB_iff.1 h
  clear m2
  have H := Lib.hid h
  clear h
  have HA := Lib.hid ha
  have HR := Lib.hid hr
  clear ha hr
  go_enter Try.func17, Try.ntmps17
  go_wp2_with fail
  refine (rmay_yes _ _ _ _ H.out).mono ?_
  rintro e w' ⟨rfl, rfl⟩
  go_wp2_with (at_builtin; refine wpList_copied rfl _ _ rfl rfl _ _ n c xs rfl HR.out ?n0 ?n1 ?_)
  case n0 => omega
  case n1 => omega
  intro g c' w1 hm hb
  clear hm
  go_wp2
  go_loop [10] (fun i => i = .int .i64 0) (fun _ => 0)
  case atStart => rfl
  case round =>
    subst hrel
    go_wp2_with fail
    refine (ris_no _ _ _ _ _ m1 (by have := HA.out; omega)).mono ?_
    rintro e w' ⟨rfl, rfl⟩
    go_wp2
    go_ret2
    exact ⟨rfl, hb⟩
theorem rzero_short (B : Nat) (A : Option Addr) (n c : Nat) (xs : List Int) (i : Nat) (k : Int) (w : World) (h : mayB n = true) (hi : i ≤ n) (hk : (n : Int) - i < k) (hr : Row w B A n xs) :
    Calls Try.prog 17 #[.slice A n c, .int .i64 (16 + i), .int .i64 k] w fun e w' => e = .returned (.tuple #[.slice none 0 0, .int .i64 3]) ∧ Below w.heap.size w w' := by
  obtain ⟨m0, m1, m2⟩ := mayB_iff.1 h
  clear m2
  have H := Lib.hid h
  clear h
  have HR := Lib.hid hr
  clear hr
  go_enter Try.func17, Try.ntmps17
  go_wp2_with fail
  refine (rmay_yes _ _ _ _ H.out).mono ?_
  rintro e w' ⟨rfl, rfl⟩
  go_wp2_with (at_builtin; refine wpList_copied rfl _ _ rfl rfl _ _ n c xs rfl HR.out ?n0 ?n1 ?_)
  case n0 => omega
  case n1 => omega
  intro g c' w1 hm hb
  have HM := Lib.hid hm
  have HB := Lib.hid hb
  clear hm hb
  go_wp2
  go_loopw [10] (fun t wr => ∃ j : Nat, i + j ≤ n ∧ t = .int .i64 j ∧ Hid (Mine wr w.heap.size 3 g n c' (wipe xs i j)) ∧ Hid (Below w.heap.size w wr)) (fun t _ => n - (intOf t).toNat)
  case atStart => exact ⟨0, by omega, rfl, HM.out, HB.out⟩
  case round =>
    obtain ⟨j, hj, rfl, hMj, hBj⟩ := hrel
    by_cases hlt : i + j < n
    · have e16 : 16 + i + j - 16 = i + j := by omega
      have hcell : wr.cell? ⟨g, 16 + i + j - 16, none⟩ = some (.int .i64 ((wipe xs i j).getD (i + j) 0)) := by rw [e16]; exact hMj.out.cell (i + j) (by omega)
      have hfree : wr.frozen? ⟨g, 16 + i + j - 16, none⟩ = false := by rw [e16]; exact hMj.out.free (i + j)
      have hsz := hMj.out.2.2.1
      have hg := hMj.out.2.1
      have H16 := Lib.hid e16
      clear e16
      go_wp2_with fail
      refine (ris_yes _ _ _ _ _ m1 (by omega) (by omega)).mono ?_
      rintro e w' ⟨rfl, rfl⟩
      go_wp2
      go_roundw
      case rel => exact ⟨j + 1, by omega, by go_num, by rw [H16.out, ← wipe_snoc]; exact hMj.out.stored (i + j) 0, hBj.out.setCell (by simpa using hg) _⟩
      case measure => simp [intOf]; omega
    · go_wp2_with fail
      refine (ris_no _ _ _ _ _ m1 (by omega)).mono ?_
      rintro e w' ⟨rfl, rfl⟩
      go_wp2
      go_ret2
      exact ⟨rfl, hBj.out⟩
theorem rzero_ok (B : Nat) (A : Option Addr) (n c : Nat) (xs : List Int) (i m : Nat) (w : World) (h : mayB n = true) (h1 : i + m ≤ n) (hr : Row w B A n xs) :
    Calls Try.prog 17 #[.slice A n c, .int .i64 (16 + i), .int .i64 m] w (Made w n (wipe xs i m)) := by
  obtain ⟨m0, m1, m2⟩ := mayB_iff.1 h
  clear m2
  have H := Lib.hid h
  clear h
  have HR := Lib.hid hr
  clear hr
  go_enter Try.func17, Try.ntmps17
  go_wp2_with fail
  refine (rmay_yes _ _ _ _ H.out).mono ?_
  rintro e w' ⟨rfl, rfl⟩
  go_wp2_with (at_builtin; refine wpList_copied rfl _ _ rfl rfl _ _ n c xs rfl HR.out ?n0 ?n1 ?_)
  case n0 => omega
  case n1 => omega
  intro g c' w1 hm hb
  have HM := Lib.hid hm
  have HB := Lib.hid hb
  clear hm hb
  go_wp2
  go_loopw [10] (fun t wr => ∃ j : Nat, j ≤ m ∧ t = .int .i64 j ∧ Hid (Mine wr w.heap.size 3 g n c' (wipe xs i j)) ∧ Hid (Below w.heap.size w wr)) (fun t _ => n - (intOf t).toNat)
  case atStart => exact ⟨0, by omega, rfl, HM.out, HB.out⟩
  case round =>
    obtain ⟨j, hj, rfl, hMj, hBj⟩ := hrel
    by_cases hlt : j < m
    · have e16 : 16 + i + j - 16 = i + j := by omega
      have hcell : wr.cell? ⟨g, 16 + i + j - 16, none⟩ = some (.int .i64 ((wipe xs i j).getD (i + j) 0)) := by rw [e16]; exact hMj.out.cell (i + j) (by omega)
      have hfree : wr.frozen? ⟨g, 16 + i + j - 16, none⟩ = false := by rw [e16]; exact hMj.out.free (i + j)
      have hsz := hMj.out.2.2.1
      have hg := hMj.out.2.1
      have H16 := Lib.hid e16
      clear e16
      go_wp2_with fail
      refine (ris_yes _ _ _ _ _ m1 (by omega) (by omega)).mono ?_
      rintro e w' ⟨rfl, rfl⟩
      go_wp2
      go_roundw
      case rel => exact ⟨j + 1, by omega, by go_num, by rw [H16.out, ← wipe_snoc]; exact hMj.out.stored (i + j) 0, hBj.out.setCell (by simpa using hg) _⟩
      case measure => simp [intOf]; omega
    · obtain rfl : j = m := by omega
      go_wp2
      go_ret2
      exact ⟨g, c', rfl, hMj.out, hBj.out⟩
theorem rzero_nil (B : Nat) (A : Option Addr) (n c : Nat) (xs : List Int) (a : Int) (w : World) (h : mayB n = true) (hr : Row w B A n xs) :
    Calls Try.prog 17 #[.slice A n c, .int .i64 a, .int .i64 0] w (Made w n xs) := by
  obtain ⟨m0, m1, m2⟩ := mayB_iff.1 h
  clear m2
  have H := Lib.hid h
  clear h
  have HR := Lib.hid hr
  clear hr
  go_enter Try.func17, Try.ntmps17
  go_wp2_with fail
  refine (rmay_yes _ _ _ _ H.out).mono ?_
  rintro e w' ⟨rfl, rfl⟩
  go_wp2_with (at_builtin; refine wpList_copied rfl _ _ rfl rfl _ _ n c xs rfl HR.out ?n0 ?n1 ?_)
  case n0 => omega
  case n1 => omega
  intro g c' w1 hm hb
  have HM := Lib.hid hm
  clear hm
  go_wp2
  go_loop [10] (fun i => i = .int .i64 0) (fun _ => 0)
  case atStart => rfl
  case round =>
    subst hrel
    go_wp2
    go_ret2
    exact ⟨g, c', rfl, HM.out, hb⟩

theorem rpage_bad (A : Option Addr) (n c : Nat) (a : Int) (w : World) (hn : n ≤ 9223372036854775807) (h : mayB n = false) :
    Calls Try.prog 19 #[.slice A n c, .int .i64 a] w fun e w' => e = .returned (.tuple #[.int .i64 0, .int .i64 1]) ∧ w = w' := by
  have H := Lib.hid h
  clear h
  go_enter Try.func19, Try.ntmps19
  go_wp2_with fail
  refine (rget_bad _ _ _ _ _ hn H.out).mono ?_
  rintro e w' ⟨rfl, rfl⟩
  go_wp2
  go_ret2
  exact ⟨rfl, rfl⟩
theorem rpage_none (A : Option Addr) (n c : Nat) (a : Int) (w : World) (h : mayB n = true) (ha : a < 16 ∨ 16 + n ≤ a) :
    Calls Try.prog 19 #[.slice A n c, .int .i64 a] w fun e w' => e = .returned (.tuple #[.int .i64 0, .int .i64 3]) ∧ w = w' := by
  have H := Lib.hid h
  clear h
  have HA := Lib.hid ha
  clear ha
  go_enter Try.func19, Try.ntmps19
  go_wp2_with fail
  refine (rget_none _ _ _ _ _ H.out HA.out).mono ?_
  rintro e w' ⟨rfl, rfl⟩
  go_wp2
  go_ret2
  exact ⟨rfl, rfl⟩
theorem rpage_ok (B : Nat) (A : Option Addr) (n c : Nat) (xs : List Int) (a : Int) (w : World) (h : mayB n = true) (h0 : 16 ≤ a) (h1 : a < 16 + n) (hr : Row w B A n xs) :
    Calls Try.prog 19 #[.slice A n c, .int .i64 a] w fun e w' => e = .returned (.tuple #[.int .i64 ((a - 16) / 16), .int .i64 0]) ∧ w = w' := by
  obtain ⟨m0, m1, m2⟩ := mayB_iff.1 h
  clear m2
  have H := Lib.hid h
  clear h
  have HR := Lib.hid hr
  clear hr
  go_enter Try.func19, Try.ntmps19
  go_wp2_with fail
  refine (rget_ok _ _ _ _ _ _ _ H.out h0 h1 HR.out).mono ?_
  rintro e w' ⟨rfl, rfl⟩
  go_wp2
  go_loop [8] (fun i => ∃ k : Nat, 16 * k + 16 ≤ a ∧ i = .int .i64 k) (fun i => n - (intOf i).toNat)
  case atStart => exact ⟨0, by omega, rfl⟩
  case round =>
    obtain ⟨k, hk, rfl⟩ := hrel
    by_cases hlt : 16 * ((k : Int) + 2) ≤ a
    · go_wp2
      go_round
      case rel => exact ⟨k + 1, by omega, by go_num⟩
      case measure => simp [intOf]; omega
    · have e : (a - 16) / 16 = (k : Int) := by omega
      have HE := Lib.hid e
      clear e
      go_wp2
      go_ret2
      exact ⟨by rw [HE.out]; rfl, rfl⟩
theorem rat_bad (A : Option Addr) (n c : Nat) (p : Int) (w : World) (hn : n ≤ 9223372036854775807) (h : mayB n = false) :
    Calls Try.prog 21 #[.slice A n c, .int .i64 p] w fun e w' => e = .returned (.tuple #[.int .i64 0, .int .i64 1]) ∧ w = w' := by
  have H := Lib.hid h
  clear h
  go_enter Try.func21, Try.ntmps21
  go_wp2_with fail
  refine (rmay_no _ _ _ _ hn H.out).mono ?_
  rintro e w' ⟨rfl, rfl⟩
  go_wp2
  go_ret2
  exact ⟨rfl, rfl⟩
theorem rat_none (A : Option Addr) (n c : Nat) (p : Int) (w : World) (h : mayB n = true) (hp : p < 0 ∨ (n : Int) ≤ 16 * p) :
    Calls Try.prog 21 #[.slice A n c, .int .i64 p] w fun e w' => e = .returned (.tuple #[.int .i64 0, .int .i64 3]) ∧ w = w' := by
  obtain ⟨m0, m1, m2⟩ := mayB_iff.1 h
  clear m2
  have H := Lib.hid h
  clear h
  by_cases h0 : p < 0
  · clear hp
    go_enter Try.func21, Try.ntmps21
    go_wp2_with fail
    refine (rmay_yes _ _ _ _ H.out).mono ?_
    rintro e w' ⟨rfl, rfl⟩
    go_wp2
    go_ret2
    exact ⟨rfl, rfl⟩
  · have h1 : (n : Int) ≤ 16 * p := by omega
    have h2 : 0 ≤ p := by omega
    clear hp h0
    by_cases h3 : 64 < p
    · go_enter Try.func21, Try.ntmps21
      go_wp2_with fail
      refine (rmay_yes _ _ _ _ H.out).mono ?_
      rintro e w' ⟨rfl, rfl⟩
      go_wp2
      go_ret2
      exact ⟨rfl, rfl⟩
    · have h4 : p ≤ 64 := by omega
      clear h3
      go_enter Try.func21, Try.ntmps21
      go_wp2_with fail
      refine (rmay_yes _ _ _ _ H.out).mono ?_
      rintro e w' ⟨rfl, rfl⟩
      go_wp2
      go_ret2
      exact ⟨rfl, rfl⟩
theorem rat_ok (A : Option Addr) (n c : Nat) (p : Int) (w : World) (h : mayB n = true) (h0 : 0 ≤ p) (h1 : 16 * p < n) :
    Calls Try.prog 21 #[.slice A n c, .int .i64 p] w fun e w' => e = .returned (.tuple #[.int .i64 (16 + p * 16), .int .i64 0]) ∧ w = w' := by
  obtain ⟨m0, m1, m2⟩ := mayB_iff.1 h
  clear m2
  have H := Lib.hid h
  clear h
  have e : 16 + p * 16 = 16 + 16 * p := by omega
  rw [e]
  clear e
  go_enter Try.func21, Try.ntmps21
  go_wp2_with fail
  refine (rmay_yes _ _ _ _ H.out).mono ?_
  rintro e w' ⟨rfl, rfl⟩
  go_wp2
  go_ret2
  exact ⟨rfl, rfl⟩
end Go.Proofs.Ytndjocfnepikhaa
