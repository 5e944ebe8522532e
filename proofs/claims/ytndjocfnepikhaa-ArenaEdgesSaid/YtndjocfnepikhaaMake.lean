/-
  Package arena's calls that make memory: New, Put and Zero, and slices.Clone, which they call: what each returns, in a block of its own, and that all that was there stays.
-/
import Derived.Test.YtndjocfnepikhaaPlain
import Derived.Lib.SliceRun
import Derived.WalkSpells
namespace Go.Proofs.Ytndjocfnepikhaa
open Go.RowKit

theorem info_int : (Try.prog.info? 3).map (fun i => (i.zero, i.size, i.bytes)) = some (some (.int .i64 0), 1, 8) := by kernel_rfl
theorem zero_int (w : World) : (zeroValue 3).run Try.prog w = .ok (.int .i64 0) w := by kernel_rfl

/-- A slice of the call's own was returned, and no error; all that was there is as it was. -/
def Made (w : World) (n : Nat) (xs : List Int) (e : Ending) (w' : World) : Prop :=
  ∃ g c, e = .returned (.tuple #[.slice (some ⟨g, 0, none⟩) n c, .int .i64 0]) ∧ Mine w' w.heap.size 3 g n c xs ∧ Below w.heap.size w w'
/-- .. alone. -/
def MadeOne (w : World) (n : Nat) (xs : List Int) (e : Ending) (w' : World) : Prop :=
  ∃ g c, e = .returned (.slice (some ⟨g, 0, none⟩) n c) ∧ Mine w' w.heap.size 3 g n c xs ∧ Below w.heap.size w w'

theorem clone_ok (B : Nat) (A : Option Addr) (n c : Nat) (xs : List Int) (w : World) (hn : 0 < n) (hbig : n * 8 ≤ 140737488355328) (hr : Row w B A n xs) :
    Calls Try.prog 28 #[.slice A n c] w (MadeOne w n xs) := by
  obtain ⟨i0, hi, hz0, hz1, hz2⟩ := info_parts info_int
  obtain ⟨b, off, rfl, _, hc⟩ := hr.2 hn
  have hl := hr.1
  have HC := Lib.hid hc
  have q22 : ∀ (w : World) (a : Option Addr) (n c n' c' : Nat), (binOp .eql 22 (.slice a n c) (.slice none n' c')).run Try.prog w = .ok (.bool a.isNone) w := fun w a n c n' c' => Lib.run_eql_slice_nil w _ _ a n c n' c' Try.underlying22
  have u22 : ∀ w, Sem.run Try.prog (underlying 22) w = .ok (TypeDesc.slice 3) w := run_underlying Try.underlying22
  have HL := Lib.hid hl
  clear hc hr hl
  go_enter Try.func28, Try.ntmps28
  go_wp2_with (at_builtin; refine wpList_append_own _ rfl _ _ 22 rfl w.heap.size 3 i0 (.int .i64 0) 1 8 Try.underlying22 hi hz0 hz1 hz2 rfl (by decide) _ _ _ rfl (World.ownsRow_made w #[] 0 (Nat.le_refl _) (Nat.zero_le _) rfl) ⟨b, off, none⟩ n c (xs.map (Value.int .i64)) rfl ?qc1 ?qc2 ?qc3 ?qc4 ?qc5 ?qc6 ?_)
  case qc1 => simp [HL.out]
  case qc2 =>
    intro j u hj
    have hl := HL.out
    have hjn : j < n := by
      have := (List.getElem?_eq_some_iff.1 hj).1
      simp at this
      omega
    rw [Addr.add_lit]
    refine Lib.cell?_alloc_some _ ?_
    rw [HC.out j hjn]
    have e : (xs.map (Value.int .i64))[j]? = some (Value.int .i64 (xs.getD j 0)) := by simp [List.getD, List.getElem?_eq_getElem (show j < xs.length by omega)]
    rw [e] at hj
    exact hj
  case qc3 => intro u hu; obtain ⟨x, _, rfl⟩ := List.mem_map.1 hu; rfl
  case qc4 => unfold maxLen; omega
  case qc5 => omega
  case qc6 => simp
  intro v' w1 hown hgrow hnil
  have hown' : w1.ownsRow w.heap.size 3 1 v' n (xs.map (Value.int .i64)) := by simpa using hown
  obtain ⟨g, c', rfl, hm⟩ := mine_of hown' hn
  have HM := Lib.hid hm
  clear hown hown' hnil hm
  go_wp2
  go_ret
  exact ⟨g, c', rfl, HM.out, ((Below.refl _ w).alloc (Nat.le_refl _) _).grown hgrow (by simp) (by intro k hk; simp [Value.ownBlock] at hk; omega)⟩

theorem new_bad (p : Int) (w : World) (h : p < 1 ∨ 64 < p) :
    Calls Try.prog 24 #[.int .i64 p] w fun e w' => e = .returned (.tuple #[.slice none 0 0, .int .i64 1]) ∧ w = w' := by
  by_cases h0 : p < 1
  · clear h
    go_enter Try.func24, Try.ntmps24
    go_wp2
    go_ret2
    exact ⟨rfl, rfl⟩
  · have h1 : 64 < p := by omega
    have h2 : 1 ≤ p := by omega
    clear h h0
    go_enter Try.func24, Try.ntmps24
    go_wp2
    go_ret2
    exact ⟨rfl, rfl⟩
theorem new_ok (p : Int) (w : World) (h0 : 1 ≤ p) (h1 : p ≤ 64) :
    Calls Try.prog 24 #[.int .i64 p] w (Made w (p * 16).toNat (List.replicate (p * 16).toNat 0)) := by
  obtain ⟨i0, hi, hz0, hz1, hz2⟩ := info_parts info_int
  go_enter Try.func24, Try.ntmps24
  go_wp2_with (at_make; refine wpList_make_full _ rfl _ _ 22 rfl w.heap.size 3 i0 (.int .i64 0) 1 Try.underlying22 hi hz0 hz1 .i64 .i64 (p * 16) (p * 16) (p * 16).toNat rfl rfl ?c1 ?c2 ?c3 ?c4 ?c5 ?_)
  case c1 => omega
  case c2 => omega
  case c3 => rw [hz2]; omega
  case c4 => unfold maxLen; omega
  case c5 => simp
  intro w1 hown hgrow
  have hown' : w1.ownsRow w.heap.size 3 1 (.slice (some ⟨w.heap.size, 0, none⟩) (p * 16).toNat (p * 16).toNat) (p * 16).toNat ((List.replicate (p * 16).toNat (0 : Int)).map (Value.int .i64)) := by
    have e : (madeCells #[Value.int .i64 0] (p * 16).toNat).toList = (List.replicate (p * 16).toNat (0 : Int)).map (Value.int .i64) := by
      rw [List.map_replicate]
      exact toList_madeCells_one _ _
    rw [← e]
    exact hown
  obtain ⟨g, c, e, hm⟩ := mine_of hown' (by omega)
  have HM := Lib.hid hm
  have HE := Lib.hid e
  clear hown hown' e hm
  go_wp2
  go_ret2
  refine ⟨g, c, ?_, HM.out, (Below.refl _ w).grown hgrow (Nat.le_refl _) (by intro k hk; cases hk)⟩
  rw [HE.out]
  rfl

theorem put_bad (A : Option Addr) (n c : Nat) (a v : Int) (w : World) (hn : n ≤ 9223372036854775807) (h : mayB n = false) :
    Calls Try.prog 13 #[.slice A n c, .int .i64 a, .int .i64 v] w fun e w' => e = .returned (.tuple #[.slice none 0 0, .int .i64 1]) ∧ w = w' := by
  have H := Lib.hid h
  clear h
  go_enter Try.func13, Try.ntmps13
  go_wp2_with (go_at_call 26; refine (span_bad _ _ _ _ _ _ hn H.out).mono ?_; rintro e w' ⟨rfl, rfl⟩)
  go_ret2
  exact ⟨rfl, rfl⟩
theorem put_none (A : Option Addr) (n c : Nat) (a v : Int) (w : World) (h : mayB n = true) (ha : a < 16 ∨ 16 + n ≤ a) (hi : a ≤ 9223372036854775807) :
    Calls Try.prog 13 #[.slice A n c, .int .i64 a, .int .i64 v] w fun e w' => e = .returned (.tuple #[.slice none 0 0, .int .i64 3]) ∧ w = w' := by
  have H := Lib.hid h
  clear h
  have HA := Lib.hid ha
  clear ha
  go_enter Try.func13, Try.ntmps13
  go_wp2_with (go_at_call 26; refine (span_none _ _ _ _ _ _ H.out (by omega) (by have := HA.out; omega) hi).mono ?_; rintro e w' ⟨rfl, rfl⟩)
  go_ret2
  exact ⟨rfl, rfl⟩

theorem zero_bad (A : Option Addr) (n c : Nat) (a k : Int) (w : World) (hn : n ≤ 9223372036854775807) (h : mayB n = false) :
    Calls Try.prog 16 #[.slice A n c, .int .i64 a, .int .i64 k] w fun e w' => e = .returned (.tuple #[.slice none 0 0, .int .i64 1]) ∧ w = w' := by
  have H := Lib.hid h
  clear h
  go_enter Try.func16, Try.ntmps16
  go_wp2_with (go_at_call 26; refine (span_bad _ _ _ _ _ _ hn H.out).mono ?_; rintro e w' ⟨rfl, rfl⟩)
  go_ret2
  exact ⟨rfl, rfl⟩
theorem zero_none (A : Option Addr) (n c : Nat) (a k : Int) (w : World) (h : mayB n = true) (hk : 0 < k) (ha : a < 16 ∨ 16 + n - a < k) (hi : a ≤ 9223372036854775807) :
    Calls Try.prog 16 #[.slice A n c, .int .i64 a, .int .i64 k] w fun e w' => e = .returned (.tuple #[.slice none 0 0, .int .i64 3]) ∧ w = w' := by
  have H := Lib.hid h
  clear h
  have HA := Lib.hid ha
  clear ha
  go_enter Try.func16, Try.ntmps16
  go_wp2_with (go_at_call 26; refine (span_none _ _ _ _ _ _ H.out (by omega) (by have := HA.out; omega) hi).mono ?_; rintro e w' ⟨rfl, rfl⟩)
  go_ret2
  exact ⟨rfl, rfl⟩
theorem zero_neg (A : Option Addr) (n c : Nat) (a k : Int) (w : World) (h : mayB n = true) (hk : k < 0) :
    Calls Try.prog 16 #[.slice A n c, .int .i64 a, .int .i64 k] w fun e w' => e = .returned (.tuple #[.slice none 0 0, .int .i64 1]) ∧ w = w' := by
  have H := Lib.hid h
  clear h
  go_enter Try.func16, Try.ntmps16
  go_wp2_with (go_at_call 26; refine (span_neg _ _ _ _ _ _ H.out hk).mono ?_; rintro e w' ⟨rfl, rfl⟩)
  go_ret2
  exact ⟨rfl, rfl⟩
theorem put_ok (B : Nat) (A : Option Addr) (n c : Nat) (xs : List Int) (a v : Int) (w : World) (h : mayB n = true) (h0 : 16 ≤ a) (h1 : a < 16 + n) (hr : Row w B A n xs) :
    Calls Try.prog 13 #[.slice A n c, .int .i64 a, .int .i64 v] w (Made w n (xs.set (a - 16).toNat v)) := by
  obtain ⟨i, rfl⟩ : ∃ i : Nat, a = 16 + i := ⟨(a - 16).toNat, by omega⟩
  have hn := (mayB_iff.1 h).2.1
  have hi : i < n := by omega
  have ei : (16 + (i : Int) - 16).toNat = i := by omega
  rw [ei]
  have EI : (16 : Int) + i - 16 = i := by omega
  have H := Lib.hid h
  have HR := Lib.hid hr
  clear h ei hr
  have HS : Calls Try.prog 26 #[.slice A n c, .int .i64 (16 + i), .int .i64 1] w fun e w' => e = .returned (.tuple #[.int .i64 i, .int .i64 (i + 1), .int .i64 0]) ∧ w = w' := by
    have := span_ok A n c (16 + i) 1 w H.out (by omega) (by omega) (by omega)
    rw [EI] at this
    exact this
  have HT := Lib.hid HS
  clear EI HS h0 h1
  go_enter Try.func13, Try.ntmps13
  go_wp2_with fail
  refine (HT.out).mono ?_
  rintro e w' ⟨rfl, rfl⟩
  go_wp2_with fail
  refine (clone_ok _ _ _ _ _ _ (by omega) (by omega) HR.out).mono ?_
  rintro e w1 ⟨g, c', rfl, hm, hb⟩
  have HM := Lib.hid hm
  have hcell := hm.cell i hi
  have hfree := hm.free i
  have hsz := hm.2.2.1
  have hg := hm.2.1
  clear hm
  go_wp2
  go_ret2
  exact ⟨g, c', rfl, HM.out.stored i v, hb.setCell (by simpa using hg) _⟩
end Go.Proofs.Ytndjocfnepikhaa
