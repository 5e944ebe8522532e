/-
  Merged texts: CkNext, HpIns, CkLx, CkAwake, CkLaw, HpLess, HpSix, AlIns.
-/
import Derived.Test.YtmalopciboikhaaDoorHpCF
import Derived.Test.YtmalopciboikhaaDoorCards
import Derived.Test.YtmalopciboikhaaDoorTie
import Derived.Test.YtmalopciboikhaaDoorHpCE
import Derived.Deep.SlicePairs
import Derived.Deep.Slices
import Derived.Deep.Fields
import Derived.ProofKit
import Derived.OpenShut
import Derived.ShutString
import Derived.ChangeOld
import Derived.LaidMore
import Derived.Lib.LaidTab
import Derived.Stop.Joined
import Derived.SevenTiedAt
import Derived.Laws.IdiomArrays
import Derived.Test.YtmalopciboikhaaDoorRows
import Derived.WalkKit
section
namespace Go.Proofs.YtmalopciboikhaaDoor.Ck
open Go.Proofs.YtmalopciboikhaaDoor
open Go.RowKit
set_option maxRecDepth 100000

theorem find_at {p : Int → Bool} {xs : List Int} {q : Nat} (hq : q < xs.length) (h : ∀ x ∈ xs.take q, p x = false) (hy : p (xs.getD q 0) = true) : xs.find? p = some (xs.getD q 0) := by
  have e : xs = xs.take q ++ xs[q] :: xs.drop (q + 1) := by rw [List.getElem_cons_drop, List.take_append_drop]
  have g : xs.getD q 0 = xs[q] := by simp [List.getD, hq]
  rw [g] at hy ⊢
  have h0 : (xs.take q).find? p = none := List.find?_eq_none.2 fun x hx => by rw [h x hx]; decide
  generalize xs[q] = y at e hy ⊢
  rw [e, List.find?_append, h0, Option.none_or, List.find?_cons_of_pos hy]
theorem find_no {p : Int → Bool} {xs : List Int} (h : ∀ x ∈ xs, p x = false) : xs.find? p = none := List.find?_eq_none.2 fun x hx => by rw [h x hx]; decide
theorem take_more {p : Int → Bool} {xs : List Int} {q : Nat} (hq : q < xs.length) (h : ∀ x ∈ xs.take q, p x = false) (hy : p (xs.getD q 0) = false) : ∀ x ∈ xs.take (q + 1), p x = false := by
  have g : xs.getD q 0 = xs[q] := by simp [List.getD, hq]
  rw [g] at hy
  intro x hx
  rw [List.take_succ_eq_append_getElem hq, List.mem_append, List.mem_singleton] at hx
  rcases hx with hx | rfl
  · exact h x hx
  · exact hy
section
variable (s : Hs) (d : Hd_) (w : World)
set_option maxHeartbeats 1000000 in
theorem next_core (k a : Int) (xs : List Int) (p : Int → Bool) (hpd : ∀ x, p x = (decide (a < x) && oldB s d x)) (hxl : xs.length ≤ 8) (hp : Hp w w.heap.size s d) (hz : Cl.Sz w) (hf : Fine s d) (hon : ∀ W, HNow w W s d → Calls Tryd.prog 16 #[(.agg #[.slice s.w.a s.w.n s.w.c, .slice s.p.a s.p.n s.p.c, .slice (s.u 0).a (s.u 0).n (s.u 0).c, .slice (s.u 1).a (s.u 1).n (s.u 1).c, .slice (s.u 2).a (s.u 2).n (s.u 2).c, .slice s.c.a s.c.n s.c.c]), .int .i64 k] W (Ls.AllOut W xs)) : Calls Tryd.prog 17 #[(.agg #[.slice s.w.a s.w.n s.w.c, .slice s.p.a s.p.n s.p.c, .slice (s.u 0).a (s.u 0).n (s.u 0).c, .slice (s.u 1).a (s.u 1).n (s.u 1).c, .slice (s.u 2).a (s.u 2).n (s.u 2).c, .slice s.c.a s.c.n s.c.c]), .int .i64 k, .int .i64 a] w fun e w' => e = .returned (.tuple #[.int .i64 ((xs.find? p).getD 0), .bool (xs.find? p).isSome]) ∧ Below w.heap.size w w' := by
  have HP := Lib.hid hp
  have HZ := Lib.hid hz
  have HF := Lib.hid hf
  have HON := Lib.hid hon
  have HPD := Lib.hid hpd
  have hz0 := hz.pos
  have b0 := (Below.refl w.heap.size w).alloc (Nat.le_refl _) (.cells #[.slice s.w.a s.w.n s.w.c, .slice s.p.a s.p.n s.p.c, .slice (s.u 0).a (s.u 0).n (s.u 0).c, .slice (s.u 1).a (s.u 1).n (s.u 1).c, .slice (s.u 2).a (s.u 2).n (s.u 2).c, .slice s.c.a s.c.n s.c.c] 28)
  obtain ⟨n, hn⟩ : ∃ n, xs.length = n := ⟨_, rfl⟩
  rw [hn] at hxl
  have HN := Lib.hid hn
  clear hp hz hf hon hpd hn
  go_enter Tryd.func17, Tryd.ntmps17
  go_wp2_with fail
  refine (HON.out _ ⟨HBox.new w s 28, b0, HP.out.below b0⟩).mono ?_
  rintro e w1 ⟨⟨va, vn, vc⟩, rfl, ho, hb1⟩
  have N1 := Lib.hid (HNow.mk (d := d) ((HBox.new w s 28).next hb1) (b0.trans (hb1.mono b0.size)) (HP.out.below (b0.trans (hb1.mono b0.size))))
  obtain rfl : vn = n := by have h1 := ho.1; have h2 := HN.out; simp only [List.length_map] at h1; omega
  have R1 := Lib.hid (row_of ho)
  clear b0 hb1 ho
  go_wp2
  go_loopw [16] (fun i wr => ∃ (q : Nat), q ≤ vn ∧ i = .int .i64 q ∧ Hid (HNow w wr s d ∧ Row wr wr.heap.size va vn xs ∧ ∀ x ∈ xs.take q, p x = false)) (fun i _ => vn - (intOf i).toNat)
  case atStart => exact ⟨0, by omega, rfl, Lib.hid ⟨N1.out, R1.out, fun x hx => by simp at hx⟩⟩
  case round =>
    obtain ⟨q, hq, rfl, HA⟩ := hrel
    by_cases hlt : q < vn
    · have NN := HN.out
      obtain ⟨b, off, rfl, hbl, hcell⟩ := HA.out.2.1.2 (by omega)
      have hq1 := hcell q hlt
      obtain ⟨y, hy⟩ : ∃ y, y = xs.getD q 0 := ⟨_, rfl⟩
      rw [← hy] at hq1
      have HY := Lib.hid hy
      have HQ : Hid (q < xs.length) := Lib.hid (by omega)
      clear hcell hy NN
      by_cases hya : y ≤ a
      · have a0 : decide (y ≤ a) = true := decide_eq_true hya
        have HM := Lib.hid (take_more HQ.out HA.out.2.2 (by rw [← HY.out, HPD.out, decide_eq_false (by omega), Bool.false_and]))
        have HB := Lib.hid (And.intro HA.out.1 (And.intro HA.out.2.1 HM.out))
        clear hya HM
        go_wp2
        go_roundw
        case rel => exact ⟨q + 1, by omega, by go_num, HB⟩
        case measure => simp [intOf]; omega
      · have a0 : decide (y ≤ a) = false := decide_eq_false hya
        have hH := phead_any s d y wr HA.out.1.all (HZ.out.over HA.out.1.bel hz0) HF.out
        obtain ⟨u, eo, hn, bo, ma, hV⟩ := old_form s d y
        rw [hV] at hH
        have HPY : Hid (p y = oldB s d y) := Lib.hid (by rw [HPD.out, decide_eq_true (by omega), Bool.true_and])
        cases hob : oldB s d y
        · rw [hob] at hH
          have HH := Lib.hid hH
          have HM := Lib.hid (take_more HQ.out HA.out.2.2 (by rw [← HY.out, HPY.out, hob]))
          have q0 := HA.out.1.box.c0
          have q1 := HA.out.1.box.c1
          have q2 := HA.out.1.box.c2
          have q3 := HA.out.1.box.c3
          have q4 := HA.out.1.box.c4
          have q5 := HA.out.1.box.c5
          have ql := HA.out.1.box.lt
          clear hH hV hob hya
          go_wp2_with fail
          refine HH.out.mono ?_
          rintro e w5 ⟨rfl, hb5⟩
          have hb6 := hb5.alloc hb5.size (.cells #[.bool u, .bool false, .bool eo, .int .i64 hn, .int .i64 bo, .int .i64 ma] 43)
          have HB := Lib.hid (And.intro (HA.out.1.next hb6) (And.intro ((HA.out.2.1.below hb6).more hb6.size) HM.out))
          clear hb5 hb6 HM q0 q1 q2 q3 q4 q5 ql HH
          go_wp2
          go_roundw
          case rel => exact ⟨q + 1, by omega, by go_num, HB⟩
          case measure => simp [intOf]; omega
        · rw [hob] at hH
          have HH := Lib.hid hH
          have HM := Lib.hid (find_at HQ.out HA.out.2.2 (by rw [← HY.out, HPY.out, hob]))
          have q0 := HA.out.1.box.c0
          have q1 := HA.out.1.box.c1
          have q2 := HA.out.1.box.c2
          have q3 := HA.out.1.box.c3
          have q4 := HA.out.1.box.c4
          have q5 := HA.out.1.box.c5
          have ql := HA.out.1.box.lt
          clear hH hV hob hya
          go_wp2_with fail
          refine HH.out.mono ?_
          rintro e w5 ⟨rfl, hb5⟩
          have hb6 := hb5.alloc hb5.size (.cells #[.bool u, .bool true, .bool eo, .int .i64 hn, .int .i64 bo, .int .i64 ma] 43)
          have HB := Lib.hid (HA.out.1.next hb6).bel
          clear hb5 hb6 q0 q1 q2 q3 q4 q5 ql HH
          go_wp2
          go_ret2
          refine ⟨?_, HB.out⟩
          rw [HM.out, ← HY.out]
          rfl
    · obtain rfl : q = vn := by omega
      have HE := Lib.hid (And.intro (find_no (p := p) (xs := xs) (by have h1 := HA.out.2.2; rwa [List.take_of_length_le (by have := HN.out; omega)] at h1)) HA.out.1.bel)
      go_wp2
      go_ret2
      refine ⟨?_, HE.out.2⟩
      rw [HE.out.1]
      rfl
theorem next_any (k a : Int) (hp : Hp w w.heap.size s d) (hz : Cl.Sz w) (hf : Fine s d) : Calls Tryd.prog 17 #[(.agg #[.slice s.w.a s.w.n s.w.c, .slice s.p.a s.p.n s.p.c, .slice (s.u 0).a (s.u 0).n (s.u 0).c, .slice (s.u 1).a (s.u 1).n (s.u 1).c, .slice (s.u 2).a (s.u 2).n (s.u 2).c, .slice s.c.a s.c.n s.c.c]), .int .i64 k, .int .i64 a] w fun e w' => e = .returned (.tuple #[.int .i64 (nextA s d k a), .bool (nextB s d k a)]) ∧ Below w.heap.size w w' :=
  next_core s d w k a (onL s d k) _ (fun _ => rfl) (on_len s d k) hp hz hf fun W h => on_any s d W k h.all (hz.over h.bel hz.pos) hf
end
end Go.Proofs.YtmalopciboikhaaDoor.Ck
end
section
namespace Go.Proofs.YtmalopciboikhaaDoor
open Go.ChangeShapes Go.WideShapes Go.ChangeAt Go.RowKit Go.Deep
set_option maxRecDepth 100000

theorem own : ownKnob Tryd.prog.godebug = none := by kernel_rfl
theorem laidOut : laidOutB Tryd.prog = true := by kernel_rfl
def laidSizes : List (String × DataW Unit) := [("ragpicker/class.sizes", Rows.laid_ragpicker_class_sizes)]
theorem gSizes : Tryd.prog.globalNamed "ragpicker/class.sizes" = some 0 := by kernel_rfl
theorem tSizes : (Tryd.prog.globals[0]?).map (·.type) = some 106 := by kernel_rfl
theorem cInt : Tryd.prog.cellsOf 3 = 1 := by kernel_rfl
theorem cSizes : Tryd.prog.cellsOf 106 = 3 := by kernel_rfl
theorem of_laid {W : World} (h : laidMetH Tryd.prog laidSizes W) : Cl.Sz W := by
  rw [MakeChecks.laidMetH_plain _ _ _ (by kernel_rfl)] at h
  have hT : Lib.TabIs Tryd.prog W "ragpicker/class.sizes" .i64 [2, 4, 8] := Lib.tabIs_of_head gSizes tSizes Tryd.underlying106 Tryd.underlying3 cInt cSizes h
  exact ⟨hT.cell gSizes 0 (by decide), hT.cell gSizes 1 (by decide), hT.cell gSizes 2 (by decide)⟩
theorem door_met (os : Os) (args : Array Value) : laidMetH Tryd.prog laidSizes ((World.doorLaid Tryd.prog 400 os).forCall (fun _ _ => 0) ⟨#[], args, []⟩).memory :=
  laidMetH_of_parts3 (fuel := 8) (laidMet_of_run' 8 (by kernel_rfl) (by kernel_rfl)) (by kernel_rfl) (by kernel_rfl)

/-- How much a reading holds. -/
theorem bulk_one {H : Type} (d : DataW H) : 1 ≤ Rows.uptoBulk d := by
  cases d <;> first | (simp only [Rows.uptoBulk]; omega) | (rename_i l; cases l <;> simp [Rows.uptoBulk])
theorem bulk_long {H : Type} : ∀ l : List (DataW H), l.length ≤ Rows.uptoBulkAll l
  | [] => by simp [Rows.uptoBulkAll]
  | x :: r => by
    have h1 := bulk_one x
    have h2 := bulk_long r
    simp only [Rows.uptoBulkAll, List.length_cons]
    omega
theorem bulk_append {H : Type} : ∀ (l r : List (DataW H)), Rows.uptoBulkAll (l ++ r) = Rows.uptoBulkAll l + Rows.uptoBulkAll r
  | [], r => by simp [Rows.uptoBulkAll]
  | x :: l, r => by
    have := bulk_append l r
    simp only [List.cons_append, Rows.uptoBulkAll]
    omega
theorem bulk_slice {H : Type} (l r : List (DataW H)) : l.length ≤ Rows.uptoBulk (.slice l r) := by
  have := bulk_long l
  simp only [Rows.uptoBulk]
  omega
theorem wf_bounds {n : Int} (h : (Lit.int .i64 n).wf = true) : -9223372036854775808 ≤ n ∧ n ≤ 9223372036854775807 := by
  simpa [Lit.wf, IntKind.min, IntKind.max, IntKind.signed, IntKind.bits] using h
def Fit64 (zs : List Int) : Prop := ∀ i, -9223372036854775808 ≤ zs.getD i 0 ∧ zs.getD i 0 ≤ 9223372036854775807
/-- A slice of numbers that comes in. -/
theorem ints_in {H : Type} {enc : TypeId × Value → H} {w : World} {base : Nat} {spare : Nat → Bool} {held : Bool} {fuel : Nat} {cs : List Value} {x : DataW H × List MemPlace}
    (h : DataW.trod enc Tryd.prog w base spare held fuel 22 cs = some x) :
    ∃ (s : Ls.Sl) (zs : List Int), cs = [.slice s.a s.n s.c] ∧ (Row w w.heap.size s.a s.n zs ∧ s.n ≤ s.c ∧ s.c ≤ maxLen) ∧ s.n ≤ Rows.uptoBulk x.1 ∧ Fit64 zs := by
  rcases open_ints Tryd.underlying22 Tryd.underlying3 (by kernel_rfl) h with ⟨rfl, rfl⟩ | ⟨y, len, cap, zs, rfl, _, hl, hm, hz, rfl, hcell, hwz⟩
  · exact ⟨⟨none, 0, 0⟩, [], rfl, ⟨Row.none_ _ _, Nat.le_refl _, by show (0 : Nat) ≤ maxLen; unfold maxLen; omega⟩, Nat.zero_le _, fun i => by simp⟩
  · have hz' : len ≤ zs.length := by rw [hz]; split <;> omega
    refine ⟨⟨some y, len, cap⟩, zs.take len, rfl, ⟨⟨by simp; omega, fun hn => ?_⟩, hl, hm⟩, ?_, fun i => ?_⟩
    · have hn' : 0 < len := hn
      obtain ⟨b, off, spot⟩ := y
      have h0 := hcell 0 (by omega)
      have hs : spot = none := by simpa [Addr.add] using World.cell?_spot h0
      subst hs
      refine ⟨b, off, rfl, ?_, fun i hi => ?_⟩
      · have := World.block_lt_of_cell? w _ h0
        simpa [Addr.add] using this
      · have hi' : i < len := hi
        have := hcell i (by omega)
        rw [Addr.add_lit] at this
        rw [this]
        simp [List.getD, hi']
    · have := bulk_slice (H := H) (lits .i64 (zs.take len)) (lits .i64 (zs.drop len))
      have e : (lits (H := H) .i64 (zs.take len)).length = len := by simp [lits]; omega
      show len ≤ Rows.uptoBulk (DataW.slice (lits .i64 (zs.take len)) (lits .i64 (zs.drop len)))
      rw [e] at this
      exact this
    · by_cases hi : i < len
      · have hi2 : i < zs.length := by omega
        have h1 := hwz (zs.getD i 0) (getD_mem hi2)
        rw [show (zs.take len).getD i 0 = zs.getD i 0 by simp [List.getD, hi]]
        exact wf_bounds h1
      · rw [show (zs.take len).getD i 0 = 0 by simp [List.getD, List.getElem?_eq_none (show (zs.take len).length ≤ i by simp; omega)]]
        omega
theorem bools_in {H : Type} {enc : TypeId × Value → H} {w : World} {base : Nat} {spare : Nat → Bool} {held : Bool} {fuel : Nat} {cs : List Value} {x : DataW H × List MemPlace}
    (h : DataW.trod enc Tryd.prog w base spare held fuel 26 cs = some x) : ∃ (s : Ls.Sl) (f : Nat → Bool), cs = [.slice s.a s.n s.c] ∧ BRow w w.heap.size s.a s.n f := by
  rcases open_slice Tryd.underlying26 h with ⟨hcs, _⟩ | ⟨y, len, cap, m, k, D, Pl, hcs, _, hl, hm, hmm, _, hi⟩
  · exact ⟨⟨none, 0, 0⟩, fun _ => false, hcs, fun h0 => absurd h0 (by simp)⟩
  · have hm' : len ≤ m := by rw [hmm]; split <;> omega
    have each : ∀ i, i < len → ∃ v : Bool, w.cell? ((y.add (i * 1)).add 0) = some (.bool v) := by
      intro i hlt
      obtain ⟨cs', h1, h2⟩ := hi i (by omega)
      have ce : Tryd.prog.cellsOf 4 = 1 := by kernel_rfl
      rw [ce] at h1
      obtain ⟨_, hlen, hcell⟩ := World.cells?_some h1
      match cs', hlen with
      | [c0], _ =>
        obtain ⟨v, e, _⟩ := DataW.trod_bool Tryd.underlying4 h2
        simp only [List.cons.injEq, and_true] at e
        subst e
        exact ⟨v, by simpa using hcell 0 (by decide)⟩
    obtain ⟨q, hq⟩ := choose_lt each
    refine ⟨⟨some y, len, cap⟩, q, hcs, fun hn => ?_⟩
    have hn' : 0 < len := hn
    obtain ⟨b, off, spot⟩ := y
    have h0 := hq 0 hn'
    have hs : spot = none := by simpa [Addr.add] using World.cell?_spot h0
    subst hs
    refine ⟨b, off, rfl, ?_, fun i hlt => ?_⟩
    · have := World.block_lt_of_cell? w _ h0
      simpa [Addr.add] using this
    · have := hq i hlt
      rw [Addr.add_lit, Addr.add_lit, Nat.mul_one] at this
      exact this
/-- Three of them. -/
def tri {α : Type} (a b c : α) : Nat → α
  | 0 => a
  | 1 => b
  | _ => c
theorem lists_in {H : Type} {enc : TypeId × Value → H} {w : World} {base : Nat} {spare : Nat → Bool} {held : Bool} {fuel : Nat} {c0 c1 c2 : Value} {x : DataW H × List MemPlace}
    (h : DataW.trod enc Tryd.prog w base spare held fuel 25 [c0, c1, c2] = some x) :
    ∃ (u : Nat → Ls.Sl) (f : Nat → List Int), [c0, c1, c2] = [.slice (u 0).a (u 0).n (u 0).c, .slice (u 1).a (u 1).n (u 1).c, .slice (u 2).a (u 2).n (u 2).c] ∧ Ls.L3 w w.heap.size u f ∧ (u 0).n + (u 1).n + (u 2).n ≤ Rows.uptoBulk x.1 := by
  obtain ⟨y0, y1, y2, n, rfl, h0, h1, h2⟩ := trod_array3 Tryd.underlying25 (by kernel_rfl) h
  obtain ⟨s0, z0, e0, r0, b0, _⟩ := ints_in h0
  obtain ⟨s1, z1, e1, r1, b1, _⟩ := ints_in h1
  obtain ⟨s2, z2, e2, r2, b2, _⟩ := ints_in h2
  simp only [List.cons.injEq, and_true] at e0 e1 e2
  refine ⟨tri s0 s1 s2, tri z0 z1 z2, by rw [e0, e1, e2]; rfl, fun j hj => ?_, ?_⟩
  · match j, hj with
    | 0, _ => exact r0
    | 1, _ => exact r1
    | 2, _ => exact r2
  · simp only [Rows.uptoBulk, Rows.uptoBulkAll, tri]
    omega
theorem rows_of {H : Type} {enc : TypeId × Value → H} {w : World} {base : Nat} {spare : Nat → Bool} {held : Bool} {a : Option Addr} {n c : Nat} {d : DataW H} {p : List MemPlace}
    (h : DataW.Trod enc Tryd.prog w base spare held 49 (.slice a n c) d p) : ∃ u f, Ls.LRow w w.heap.size a n u f ∧ n ≤ maxLen ∧ (Ls.allOf f n).length ≤ Rows.uptoBulk d := by
  obtain ⟨fuel, hf⟩ := h
  rcases open_slice Tryd.underlying49 hf with ⟨hcs, _⟩ | ⟨y, len, cap, m, k, D, Pl, hcs, _, hl, hm, hmm, hx, hi⟩
  · simp [Value.cells] at hcs
    obtain ⟨rfl, rfl, rfl⟩ := hcs
    exact ⟨fun _ => Ls.noSl, fun _ => Ls.noLists, fun h0 => absurd h0 (by omega), Nat.zero_le _, by simp [Ls.allOf]⟩
  · simp [Value.cells] at hcs
    obtain ⟨rfl, rfl, rfl⟩ := hcs
    have hm' : n ≤ m := by rw [hmm]; split <;> omega
    have each : ∀ i, i < n → ∃ q : (Nat → Ls.Sl) × (Nat → List Int), (∀ j, j < 3 → w.cell? ((y.add (i * 3)).add j) = some (.slice (q.1 j).a (q.1 j).n (q.1 j).c)) ∧ Ls.L3 w w.heap.size q.1 q.2 ∧ (Ls.upTo q.2 3).length ≤ Rows.uptoBulk (D i) := by
      intro i hlt
      obtain ⟨cs', h1, h2⟩ := hi i (by omega)
      have ce : Tryd.prog.cellsOf 25 = 3 := by kernel_rfl
      rw [ce] at h1
      obtain ⟨_, hlen, hcell⟩ := World.cells?_some h1
      match cs', hlen with
      | [c0, c1, c2], _ =>
        obtain ⟨u, f, e, h3, hb⟩ := lists_in h2
        simp only [List.cons.injEq, and_true] at e
        obtain ⟨rfl, rfl, rfl⟩ := e
        refine ⟨(u, f), fun j hj => ?_, h3, ?_⟩
        · match j, hj with
          | 0, _ => simpa using hcell 0 (by decide)
          | 1, _ => simpa using hcell 1 (by decide)
          | 2, _ => simpa using hcell 2 (by decide)
        · have e0 := h3.len 0 (by decide)
          have e1 := h3.len 1 (by decide)
          have e2 := h3.len 2 (by decide)
          have : (Ls.upTo f 3).length = (f 0).length + (f 1).length + (f 2).length := by simp [Ls.upTo, List.range_succ]; omega
          show (Ls.upTo f 3).length ≤ _
          simp only at hb
          omega
    haveI : Inhabited ((Nat → Ls.Sl) × (Nat → List Int)) := ⟨(Ls.noSl, Ls.noLists)⟩
    obtain ⟨q, hq⟩ := choose_lt each
    refine ⟨fun i => (q i).1, fun i => (q i).2, fun hn => ?_, Nat.le_trans hl hm, ?_⟩
    · obtain ⟨b, off, spot⟩ := y
      have h0 := (hq 0 hn).1 0 (by decide)
      have hs : spot = none := by simpa [Addr.add] using World.cell?_spot h0
      subst hs
      refine ⟨b, off, rfl, ?_, fun i hlt => ⟨fun j hj => ?_, (hq i hlt).2.1⟩⟩
      · have := World.block_lt_of_cell? w _ h0
        simpa [Addr.add] using this
      · have := (hq i hlt).1 j hj
        rw [Addr.add_lit, Addr.add_lit] at this
        exact this
    · have hd := (Prod.mk.inj hx).1
      rw [hd]
      have key : ∀ k, k ≤ n → (Ls.allOf (fun i => (q i).2) k).length ≤ Rows.uptoBulkAll ((List.range k).map D) := by
        intro k
        induction k with
        | zero => intro _; simp [Ls.allOf]
        | succ k ih =>
          intro hk
          have h1 := ih (by omega)
          have h2 := (hq k (by omega)).2.2
          rw [Ls.allOf_succ, List.length_append, List.range_succ, List.map_append, bulk_append]
          simp only [List.map_cons, List.map_nil, Rows.uptoBulkAll]
          omega
      have := key n (Nat.le_refl _)
      simp only [Rows.uptoBulk]
      omega
end Go.Proofs.YtmalopciboikhaaDoor
end
section
namespace Go.Proofs.YtmalopciboikhaaDoor.Ck
open Go.Proofs.YtmalopciboikhaaDoor
open Go.RowKit
set_option maxRecDepth 100000

theorem bl_call {w W W' : World} (h : Below w.heap.size w W) (hb : Below W.heap.size W W') : Below w.heap.size w W' := h.trans (hb.mono h.size)
structure Lx (w W : World) (A : Option Addr) (n : Nat) (U : Nat → Nat → Ls.Sl) (F : Nat → Nat → List Int) (hs : List (Nat × Hs × Hd_)) : Prop where
  bel : Below w.heap.size w W
  lr : Ls.LRow W W.heap.size A n U F
  h : ∀ x ∈ hs, HBox W x.1 x.2.1 ∧ Hp W W.heap.size x.2.1 x.2.2
section
variable {w w3 W W' : World} {s t t1 t2 : Hs} {d d1 d2 : Hd_} {A : Option Addr} {n b b1 b2 : Nat} {U : Nat → Nat → Ls.Sl} {F : Nat → Nat → List Int} {hs : List (Nat × Hs × Hd_)} {ty : TypeId}
theorem Lx.next (h : Lx w W A n U F hs) (hb : Below W.heap.size W W') : Lx w W' A n U F hs := ⟨h.bel.trans (hb.mono h.bel.size), lrow_more (h.lr.below hb) hb.size, fun x hx => ⟨(h.h x hx).1.next hb, (h.h x hx).2.next hb⟩⟩
theorem Lx.at (h : Lx w W A n U F hs) (b : Nat) (s : Hs) (d : Hd_) (hm : (b, s, d) ∈ hs) : HBox W b s := (h.h _ hm).1
theorem Lx.hp (h : Lx w W A n U F hs) (b : Nat) (s : Hs) (d : Hd_) (hm : (b, s, d) ∈ hs) : Hp W W.heap.size s d := (h.h _ hm).2
/-- A heap in new memory. -/
structure Nw (w3 W : World) (b : Nat) (t : Hs) (d : Hd_) : Prop where
  bel : Below w3.heap.size w3 W
  box : HBox W b t
  hp : Hp W W.heap.size t d
theorem Lx.add (h : Lx w w3 A n U F hs) (k : Nw w3 W b t d) : Lx w W A n U F ((b, t, d) :: hs) := by
  have h1 := h.next k.bel
  refine ⟨h1.bel, h1.lr, fun x hx => ?_⟩
  rcases List.mem_cons.1 hx with rfl | hx
  · exact ⟨k.box, k.hp⟩
  · exact h1.h x hx
theorem nw_new (bel : Below w3.heap.size w3 W) (hp : Hp W W.heap.size t d) : Nw w3 (W.alloc (.cells #[.slice t.w.a t.w.n t.w.c, .slice t.p.a t.p.n t.p.c, .slice (t.u 0).a (t.u 0).n (t.u 0).c, .slice (t.u 1).a (t.u 1).n (t.u 1).c, .slice (t.u 2).a (t.u 2).n (t.u 2).c, .slice t.c.a t.c.n t.c.c] ty)) W.heap.size t d :=
  have b2 : Below W.heap.size W (W.alloc (.cells #[.slice t.w.a t.w.n t.w.c, .slice t.p.a t.p.n t.p.c, .slice (t.u 0).a (t.u 0).n (t.u 0).c, .slice (t.u 1).a (t.u 1).n (t.u 1).c, .slice (t.u 2).a (t.u 2).n (t.u 2).c, .slice t.c.a t.c.n t.c.c] ty)) := (Below.refl _ _).alloc (Nat.le_refl _) _
  ⟨bl_call bel b2, HBox.new W t ty, hp.next b2⟩
theorem lx_start (hp : Hp w w.heap.size s d) (hl : Ls.LRow w w.heap.size A n U F) (h : W = w.alloc (.cells #[.slice s.w.a s.w.n s.w.c, .slice s.p.a s.p.n s.p.c, .slice (s.u 0).a (s.u 0).n (s.u 0).c, .slice (s.u 1).a (s.u 1).n (s.u 1).c, .slice (s.u 2).a (s.u 2).n (s.u 2).c, .slice s.c.a s.c.n s.c.c] ty)) : Lx w W A n U F [(w.heap.size, s, d)] := by
  have b1 : Below w.heap.size w W := by rw [h]; exact (Below.refl _ _).alloc (Nat.le_refl _) _
  refine ⟨b1, lrow_more (hl.below b1) b1.size, fun x hx => ?_⟩
  obtain rfl := List.mem_singleton.1 hx
  exact ⟨by rw [h]; exact HBox.new w s _, hp.next b1⟩
theorem six_of (h : HBox W b s) : b < W.heap.size ∧ W.cell? ⟨b, 0, none⟩ = some (.slice s.w.a s.w.n s.w.c) ∧ W.cell? ⟨b, 1, none⟩ = some (.slice s.p.a s.p.n s.p.c) ∧ W.cell? ⟨b, 2, none⟩ = some (.slice (s.u 0).a (s.u 0).n (s.u 0).c) ∧ W.cell? ⟨b, 3, none⟩ = some (.slice (s.u 1).a (s.u 1).n (s.u 1).c) ∧ W.cell? ⟨b, 4, none⟩ = some (.slice (s.u 2).a (s.u 2).n (s.u 2).c) ∧ W.cell? ⟨b, 5, none⟩ = some (.slice s.c.a s.c.n s.c.c) := ⟨h.lt, h.c0, h.c1, h.c2, h.c3, h.c4, h.c5⟩
theorem lx_keep2 (m1 : (b1, t1, d1) ∈ hs) (m2 : (b2, t2, d2) ∈ hs) (h : Lx w W A n U F hs ∧ True) (hb : Below W.heap.size W W') : (Lx w W' A n U F hs ∧ True) ∧ (b1 < W'.heap.size ∧ W'.cell? ⟨b1, 0, none⟩ = some (.slice t1.w.a t1.w.n t1.w.c) ∧ W'.cell? ⟨b1, 1, none⟩ = some (.slice t1.p.a t1.p.n t1.p.c) ∧ W'.cell? ⟨b1, 2, none⟩ = some (.slice (t1.u 0).a (t1.u 0).n (t1.u 0).c) ∧ W'.cell? ⟨b1, 3, none⟩ = some (.slice (t1.u 1).a (t1.u 1).n (t1.u 1).c) ∧ W'.cell? ⟨b1, 4, none⟩ = some (.slice (t1.u 2).a (t1.u 2).n (t1.u 2).c) ∧ W'.cell? ⟨b1, 5, none⟩ = some (.slice t1.c.a t1.c.n t1.c.c)) ∧ b2 < W'.heap.size ∧ W'.cell? ⟨b2, 0, none⟩ = some (.slice t2.w.a t2.w.n t2.w.c) ∧ W'.cell? ⟨b2, 1, none⟩ = some (.slice t2.p.a t2.p.n t2.p.c) ∧ W'.cell? ⟨b2, 2, none⟩ = some (.slice (t2.u 0).a (t2.u 0).n (t2.u 0).c) ∧ W'.cell? ⟨b2, 3, none⟩ = some (.slice (t2.u 1).a (t2.u 1).n (t2.u 1).c) ∧ W'.cell? ⟨b2, 4, none⟩ = some (.slice (t2.u 2).a (t2.u 2).n (t2.u 2).c) ∧ W'.cell? ⟨b2, 5, none⟩ = some (.slice t2.c.a t2.c.n t2.c.c) :=
  ⟨⟨h.1.next hb, trivial⟩, six_of ((h.1.next hb).at b1 t1 d1 m1), six_of ((h.1.next hb).at b2 t2 d2 m2)⟩
end
/-- Lists of a heap that is small. -/
theorem few_lists {w : World} {B : Nat} {s : Hs} {d : Hd_} (h : fewH s = true) (hp : Hp w B s d) : ∀ j, j < 3 → (s.u j).n ≤ 70 ∧ (d.F j).length ≤ 70 := fun j hj => by
  have h4 := (few_parts h).2.2.2
  unfold lightB at h4
  simp only [decide_eq_true_eq] at h4
  have := hp.free.len j hj
  rcases (show j = 0 ∨ j = 1 ∨ j = 2 by omega) with rfl | rfl | rfl <;> omega
end Go.Proofs.YtmalopciboikhaaDoor.Ck
end
section
namespace Go.Proofs.YtmalopciboikhaaDoor.Ck
open Go.Proofs.YtmalopciboikhaaDoor
open Go.RowKit
set_option maxRecDepth 100000

def dA : Hd_ := ⟨List.replicate 32 0, fun _ => (0, 0), Ls.noLists, fun _ => false⟩
def Sz2 (s : Hs) : Prop := s.w.n = 32 ∧ s.p.n = 2 ∧ s.c.n = 4
theorem zeros_at (n i : Nat) : (List.replicate n (0 : Int)).getD i 0 = 0 := by by_cases h : i < n <;> simp [List.getD, h]
theorem fine_A {s : Hs} (h : Sz2 s) : Fine s dA := by
  obtain ⟨h1, h2, h3⟩ := h
  refine ⟨by omega, by omega, by omega, fun i => ?_, by decide⟩
  have : dA.ws.getD i 0 = 0 := zeros_at 32 i
  omega
theorem of_A {s : Hs} (h : Sz2 s) : ofE s dA 31 = 0 ∧ ofN s dA 31 = 1 ∧ ofE s dA 32 = 0 ∧ ofN s dA 32 = 2 := by
  obtain ⟨⟨a1, n1, c1⟩, ⟨a2, n2, c2⟩, x, ⟨a3, n3, c3⟩⟩ := s
  obtain ⟨h1, h2, h3⟩ := h
  dsimp only at h1 h2 h3
  subst h1 h2 h3
  exact ⟨by kernel_rfl, by kernel_rfl, by kernel_rfl, by kernel_rfl⟩
theorem dir_A {s : Hs} (h : Sz2 s) : dirR s dA 32 = ⟨ck dA 2 true, 32, 2, 4, 0⟩ := by
  obtain ⟨⟨a1, n1, c1⟩, ⟨a2, n2, c2⟩, x, ⟨a3, n3, c3⟩⟩ := s
  obtain ⟨h1, h2, h3⟩ := h
  dsimp only at h1 h2 h3
  subst h1 h2 h3
  kernel_rfl
theorem is_A {s : Hs} (h : Sz2 s) : isB s (ck dA 2 true) 39 = true ∧ isB s (ck dA 2 true) 31 = false := by
  obtain ⟨⟨a1, n1, c1⟩, ⟨a2, n2, c2⟩, x, ⟨a3, n3, c3⟩⟩ := s
  obtain ⟨h1, h2, h3⟩ := h
  dsimp only at h1 h2 h3
  subst h1 h2 h3
  exact ⟨by kernel_rfl, by kernel_rfl⟩
theorem new_A (w : World) : Calls Tryd.prog 22 #[.int .i64 2] w (HOut w ⟨dA, 32, 2, 4, 0⟩) :=
  (new_ok 2 w (by omega) (by omega)).mono fun _ _ ⟨A, C, g, cw, h1, h2, h3, h4, h5⟩ => ⟨⟨⟨some ⟨g, 0, none⟩, 16 * 2, cw⟩, ⟨A, 2, 2⟩, Ls.noSl, ⟨C, 2 * 2, 2 * 2⟩⟩, h1, ⟨h2, h3, Ls.L3.none_ _ _, h4⟩, ⟨rfl, rfl, rfl⟩, h5⟩
set_option maxHeartbeats 2000000 in
theorem awake_any (w : World) (hz : Cl.Sz w) : Calls Tryd.prog 8 #[] w fun e w' => e = .returned (.bool true) ∧ Below w.heap.size w w' := by
  have HZ := Lib.hid hz
  have hz0 := hz.pos
  obtain ⟨U, hU⟩ := lrow_none w w.heap.size
  clear hz
  go_enter Tryd.func8, Tryd.ntmps8
  go_wp2_with fail
  refine (new_A w).mono ?_
  rintro e w1 ⟨s, rfl, hp1, hl1, hb1⟩
  have NN := Lib.hid (And.intro hl1 hb1)
  have HS := Lib.hid (show Sz2 s from hl1)
  have HP := Lib.hid hp1
  clear hp1 hl1 hb1
  go_wp2_with fail
  obtain ⟨W1, hW1⟩ : ∃ W1, W1 = w1.alloc (.cells #[.slice s.w.a s.w.n s.w.c, .slice s.p.a s.p.n s.p.c, .slice (s.u 0).a (s.u 0).n (s.u 0).c, .slice (s.u 1).a (s.u 1).n (s.u 1).c, .slice (s.u 2).a (s.u 2).n (s.u 2).c, .slice s.c.a s.c.n s.c.c] 28) := ⟨_, rfl⟩
  have L1 := Lib.hid (lx_start (A := none) (n := 0) (U := U) (F := noCaches) HP.out (fun h => absurd h (by omega)) hW1)
  rw [← hW1]
  clear hW1
  have HZ1 : Hid (∀ W, Below w1.heap.size w1 W → Cl.Sz W) := Lib.hid (fun W h => HZ.out.over (NN.out.2.trans (h.mono NN.out.2.size)) hz0)
  have hO1 := of_any s dA W1 31 (L1.out.hp w1.heap.size s dA (by simp)) (HZ1.out _ L1.out.bel) (fine_A HS.out) (by omega)
  rw [(of_A HS.out).1, (of_A HS.out).2.1] at hO1
  refine hO1.mono ?_
  rintro e w2 ⟨rfl, hb2⟩
  have L2 := Lib.hid (L1.out.next hb2)
  clear hb2 hO1 L1
  have q0 := (L2.out.at (w1.heap.size) s dA (by simp)).c0
  have q1 := (L2.out.at (w1.heap.size) s dA (by simp)).c1
  have q2 := (L2.out.at (w1.heap.size) s dA (by simp)).c2
  have q3 := (L2.out.at (w1.heap.size) s dA (by simp)).c3
  have q4 := (L2.out.at (w1.heap.size) s dA (by simp)).c4
  have q5 := (L2.out.at (w1.heap.size) s dA (by simp)).c5
  have ql := (L2.out.at (w1.heap.size) s dA (by simp)).lt
  go_wp2_with fail
  have hO2 := of_any s dA w2 32 (L2.out.hp w1.heap.size s dA (by simp)) (HZ1.out _ L2.out.bel) (fine_A HS.out) (by omega)
  rw [(of_A HS.out).2.2.1, (of_A HS.out).2.2.2] at hO2
  refine hO2.mono ?_
  rintro e w3 ⟨rfl, hb3⟩
  have L3 := Lib.hid (L2.out.next hb3)
  clear hb3 hO2 L2
  clear q0 q1 q2 q3 q4 q5 ql
  have q0 := (L3.out.at w1.heap.size s dA (by simp)).c0
  have q1 := (L3.out.at w1.heap.size s dA (by simp)).c1
  have q2 := (L3.out.at w1.heap.size s dA (by simp)).c2
  have q3 := (L3.out.at w1.heap.size s dA (by simp)).c3
  have q4 := (L3.out.at w1.heap.size s dA (by simp)).c4
  have q5 := (L3.out.at w1.heap.size s dA (by simp)).c5
  have ql := (L3.out.at w1.heap.size s dA (by simp)).lt
  go_wp2_with fail
  have hD := dirty_any s dA w3 32 (L3.out.hp w1.heap.size s dA (by simp)) (HZ1.out _ L3.out.bel) (fine_A HS.out) (by omega)
  rw [dir_A HS.out] at hD
  refine hD.mono ?_
  rintro e w4 ⟨t, rfl, hp4, hl4, hb4⟩
  have HT := Lib.hid (show Sz2 t from hl4)
  have L4 := Lib.hid (L3.out.add (nw_new (ty := 28) hb4 hp4))
  clear hp4 hl4 hb4 hD L3
  clear q0 q1 q2 q3 q4 q5 ql
  go_upto_region 5 with fail
  obtain ⟨W5, hW5⟩ : ∃ W, W = w4.alloc (.cells #[.slice t.w.a t.w.n t.w.c, .slice t.p.a t.p.n t.p.c, .slice (t.u 0).a (t.u 0).n (t.u 0).c, .slice (t.u 1).a (t.u 1).n (t.u 1).c, .slice (t.u 2).a (t.u 2).n (t.u 2).c, .slice t.c.a t.c.n t.c.c] 28) := ⟨_, rfl⟩
  obtain ⟨b1, hb1⟩ : ∃ b, b = w4.heap.size := ⟨_, rfl⟩
  rw [← hW5, ← hb1] at L4
  rw [← hW5, ← hb1]
  clear hW5 hb1
  have q0 := (L4.out.at b1 t (ck dA 2 true) (by simp)).c0
  have q1 := (L4.out.at b1 t (ck dA 2 true) (by simp)).c1
  have q2 := (L4.out.at b1 t (ck dA 2 true) (by simp)).c2
  have q3 := (L4.out.at b1 t (ck dA 2 true) (by simp)).c3
  have q4 := (L4.out.at b1 t (ck dA 2 true) (by simp)).c4
  have q5 := (L4.out.at b1 t (ck dA 2 true) (by simp)).c5
  have ql := (L4.out.at b1 t (ck dA 2 true) (by simp)).lt
  have hI1 := is_any t (ck dA 2 true) W5 39 (L4.out.hp b1 t (ck dA 2 true) (by simp)) (HZ1.out _ L4.out.bel) (fine_ck (s := t) ⟨rfl, rfl, rfl⟩ (fine_A HT.out) 2 true) (by omega)
  rw [(is_A HT.out).1] at hI1
  go_wp2_with fail
  refine hI1.mono ?_
  rintro e w6 ⟨rfl, hb6⟩
  have L6 := Lib.hid (L4.out.next hb6)
  clear hb6 hI1 L4
  clear q0 q1 q2 q3 q4 q5 ql
  have q0 := (L6.out.at b1 t (ck dA 2 true) (by simp)).c0
  have q1 := (L6.out.at b1 t (ck dA 2 true) (by simp)).c1
  have q2 := (L6.out.at b1 t (ck dA 2 true) (by simp)).c2
  have q3 := (L6.out.at b1 t (ck dA 2 true) (by simp)).c3
  have q4 := (L6.out.at b1 t (ck dA 2 true) (by simp)).c4
  have q5 := (L6.out.at b1 t (ck dA 2 true) (by simp)).c5
  have ql := (L6.out.at b1 t (ck dA 2 true) (by simp)).lt
  have hI2 := is_any t (ck dA 2 true) w6 31 (L6.out.hp b1 t (ck dA 2 true) (by simp)) (HZ1.out _ L6.out.bel) (fine_ck (s := t) ⟨rfl, rfl, rfl⟩ (fine_A HT.out) 2 true) (by omega)
  rw [(is_A HT.out).2] at hI2
  go_wp2_with fail
  refine hI2.mono ?_
  rintro e w7 ⟨rfl, hb7⟩
  have L7 := Lib.hid (L6.out.next hb7)
  clear hb7 hI2 L6
  clear q0 q1 q2 q3 q4 q5 ql
  go_wp2
  go_ret
  exact ⟨rfl, NN.out.2.trans (L7.out.bel.mono NN.out.2.size)⟩
end Go.Proofs.YtmalopciboikhaaDoor.Ck
end
section
namespace Go.Proofs.YtmalopciboikhaaDoor.Ck
open Go.Proofs.YtmalopciboikhaaDoor
open Go.RowKit
set_option maxRecDepth 100000

section
variable (s : Hs) (d : Hd_) (w : World)
theorem dirR_er (a : Int) : (dirR s d a).er = ofE s d a := by
  unfold dirR
  split
  · next h => exact h.symm
  · rfl
theorem clR_er (k : Int) : (clR s d k).er = clE s d k := by
  unfold clR
  split
  · next h => exact h.symm
  · rfl
/-- A heap, of which only the error is asked. -/
theorem dirty_weak (a : Int) (hp : Hp w w.heap.size s d) (hz : Cl.Sz w) (hf : Fine s d) (ha : a ≤ 9223372036854775807) : Calls Tryd.prog 12 #[(.agg #[.slice s.w.a s.w.n s.w.c, .slice s.p.a s.p.n s.p.c, .slice (s.u 0).a (s.u 0).n (s.u 0).c, .slice (s.u 1).a (s.u 1).n (s.u 1).c, .slice (s.u 2).a (s.u 2).n (s.u 2).c, .slice s.c.a s.c.n s.c.c]), .int .i64 a] w fun e w' => ∃ t : Hs, e = .returned (.tuple #[(.agg #[.slice t.w.a t.w.n t.w.c, .slice t.p.a t.p.n t.p.c, .slice (t.u 0).a (t.u 0).n (t.u 0).c, .slice (t.u 1).a (t.u 1).n (t.u 1).c, .slice (t.u 2).a (t.u 2).n (t.u 2).c, .slice t.c.a t.c.n t.c.c]), .int .i64 (ofE s d a)]) ∧ Hp w' w'.heap.size t (dirR s d a).d ∧ True ∧ Below w.heap.size w w' := by
  have := dirty_any s d w a hp hz hf ha
  unfold HOut at this
  rw [dirR_er] at this
  exact this.mono fun e w' ⟨t, h1, h2, _, h4⟩ => ⟨t, h1, h2, trivial, h4⟩
theorem clean_weak (k : Int) (hp : Hp w w.heap.size s d) (hz : Cl.Sz w) (hf : Fine s d) : Calls Tryd.prog 13 #[(.agg #[.slice s.w.a s.w.n s.w.c, .slice s.p.a s.p.n s.p.c, .slice (s.u 0).a (s.u 0).n (s.u 0).c, .slice (s.u 1).a (s.u 1).n (s.u 1).c, .slice (s.u 2).a (s.u 2).n (s.u 2).c, .slice s.c.a s.c.n s.c.c]), .int .i64 k] w fun e w' => ∃ t : Hs, e = .returned (.tuple #[(.agg #[.slice t.w.a t.w.n t.w.c, .slice t.p.a t.p.n t.p.c, .slice (t.u 0).a (t.u 0).n (t.u 0).c, .slice (t.u 1).a (t.u 1).n (t.u 1).c, .slice (t.u 2).a (t.u 2).n (t.u 2).c, .slice t.c.a t.c.n t.c.c]), .int .i64 (clE s d k)]) ∧ Hp w' w'.heap.size t (clR s d k).d ∧ True ∧ Below w.heap.size w w' := by
  have := clean_any s d w k hp hz hf
  unfold HOut at this
  rw [clR_er] at this
  exact this.mono fun e w' ⟨t, h1, h2, _, h4⟩ => ⟨t, h1, h2, trivial, h4⟩
/-- A card that there is was turned. -/
theorem dirty_turn (a : Int) (hp : Hp w w.heap.size s d) (hz : Cl.Sz w) (hf : Fine s d) (ha : a ≤ 9223372036854775807) (hE : ofE s d a = 0) : Calls Tryd.prog 12 #[(.agg #[.slice s.w.a s.w.n s.w.c, .slice s.p.a s.p.n s.p.c, .slice (s.u 0).a (s.u 0).n (s.u 0).c, .slice (s.u 1).a (s.u 1).n (s.u 1).c, .slice (s.u 2).a (s.u 2).n (s.u 2).c, .slice s.c.a s.c.n s.c.c]), .int .i64 a] w fun e w' => ∃ t : Hs, e = .returned (.tuple #[(.agg #[.slice t.w.a t.w.n t.w.c, .slice t.p.a t.p.n t.p.c, .slice (t.u 0).a (t.u 0).n (t.u 0).c, .slice (t.u 1).a (t.u 1).n (t.u 1).c, .slice (t.u 2).a (t.u 2).n (t.u 2).c, .slice t.c.a t.c.n t.c.c]), .int .i64 0]) ∧ Hp w' w'.heap.size t (ck d (ofK a) true) ∧ Same3 s t ∧ Below w.heap.size w w' := by
  have := dirty_any s d w a hp hz hf ha
  unfold HOut dirR at this
  rw [if_pos hE] at this
  exact this
theorem clean_turn (k : Nat) (hp : Hp w w.heap.size s d) (hz : Cl.Sz w) (hf : Fine s d) (hE : clE s d k = 0) : Calls Tryd.prog 13 #[(.agg #[.slice s.w.a s.w.n s.w.c, .slice s.p.a s.p.n s.p.c, .slice (s.u 0).a (s.u 0).n (s.u 0).c, .slice (s.u 1).a (s.u 1).n (s.u 1).c, .slice (s.u 2).a (s.u 2).n (s.u 2).c, .slice s.c.a s.c.n s.c.c]), .int .i64 (k : Int)] w fun e w' => ∃ t : Hs, e = .returned (.tuple #[(.agg #[.slice t.w.a t.w.n t.w.c, .slice t.p.a t.p.n t.p.c, .slice (t.u 0).a (t.u 0).n (t.u 0).c, .slice (t.u 1).a (t.u 1).n (t.u 1).c, .slice (t.u 2).a (t.u 2).n (t.u 2).c, .slice t.c.a t.c.n t.c.c]), .int .i64 0]) ∧ Hp w' w'.heap.size t (ck d k false) ∧ Same3 s t ∧ Below w.heap.size w w' := by
  have := clean_any s d w k hp hz hf
  unfold HOut clR at this
  rw [if_pos hE] at this
  exact this
end
end Go.Proofs.YtmalopciboikhaaDoor.Ck
end
section
namespace Go.Proofs.YtmalopciboikhaaDoor
open Go.ChangeShapes Go.WideShapes Go.ChangeAt Go.RowKit Go.Deep
set_option maxRecDepth 100000

theorem cap_of {H : Type} {enc : TypeId × Value → H} {w : World} {base : Nat} {spare : Nat → Bool} {held : Bool} {a : Option Addr} {n c : Nat} {d : DataW H} {p : List MemPlace}
    (h : DataW.Trod enc Tryd.prog w base spare held 49 (.slice a n c) d p) : n ≤ c ∧ c ≤ maxLen := by
  obtain ⟨fuel, hf⟩ := h
  rcases open_slice Tryd.underlying49 hf with ⟨hcs, _⟩ | ⟨y, len, cap, m, k, D, Pl, hcs, _, hl, hm, hmm, hx, hi⟩
  · simp [Value.cells] at hcs
    obtain ⟨rfl, rfl, rfl⟩ := hcs
    exact ⟨Nat.le_refl _, Nat.zero_le _⟩
  · simp [Value.cells] at hcs
    obtain ⟨rfl, rfl, rfl⟩ := hcs
    exact ⟨hl, hm⟩
end Go.Proofs.YtmalopciboikhaaDoor
end
section
namespace Go.Proofs.YtmalopciboikhaaDoor
open Go.ChangeShapes Go.WideShapes Go.ChangeAt Go.RowKit Go.Deep

section
variable {H : Type} {enc : TypeId × Value → H} {P : Program} {w : World} {base : Nat} {spare : Nat → Bool} {held : Bool}

end
end Go.Proofs.YtmalopciboikhaaDoor
end
section
namespace Go.Proofs.YtmalopciboikhaaDoor
open Go.ChangeShapes Go.WideShapes Go.ChangeAt Go.RowKit Go.Deep
set_option maxRecDepth 100000

theorem pin_cap {H : Type} {enc : TypeId × Value → H} {w : World} {base : Nat} {spare : Nat → Bool} {held : Bool} {fuel : Nat} {cs : List Value} {x : DataW H × List MemPlace}
    (h : DataW.trod enc Tryd.prog w base spare held fuel 23 cs = some x) : ∃ (s : Ls.Sl) (f : Nat → Int × Int), cs = [.slice s.a s.n s.c] ∧ Cl.PRow w w.heap.size s.a s.n f ∧ s.n ≤ s.c := by
  rcases open_slice_pairs Tryd.underlying23 Tryd.underlying56 (by kernel_rfl) rfl rfl (by kernel_rfl) (by kernel_rfl) h with ⟨hcs, _⟩ | ⟨x, l, c, m, n, V0, V1, D0, D1, P0, P1, hcs, _, hl, hm, hmm, _, hi⟩
  · exact ⟨⟨none, 0, 0⟩, fun _ => (0, 0), hcs, Cl.PRow.empty _ _ _ _, Nat.le_refl _⟩
  · refine ⟨⟨some x, l, c⟩, fun i => (intOf (V0 i), intOf (V1 i)), hcs, fun hn => ?_, hl⟩
    have hn' : 0 < l := hn
    have hm' : l ≤ m := by rw [hmm]; split <;> omega
    obtain ⟨b, off, spot⟩ := x
    have h0 := (hi 0 (by omega)).1
    have hs : spot = none := by simpa [Addr.add] using World.cell?_spot h0
    subst hs
    refine ⟨b, off, rfl, ?_, fun i hlt => ?_⟩
    · have := World.block_lt_of_cell? w _ h0
      simpa [Addr.add] using this
    · have hlt' : i < l := hlt
      obtain ⟨g0, g1, t0, t1⟩ := hi i (by omega)
      rw [Addr.add_lit] at g0 g1
      rw [← Nat.add_assoc] at g1
      obtain ⟨z0, e0, _⟩ := DataW.trod_int Tryd.underlying3 t0
      obtain ⟨z1, e1, _⟩ := DataW.trod_int Tryd.underlying3 t1
      simp only [List.cons.injEq, and_true] at e0 e1
      refine ⟨?_, ?_⟩
      · show _ = some (Value.int .i64 (intOf (V0 i)))
        rw [g0, e0]
        rfl
      · show _ = some (Value.int .i64 (intOf (V1 i)))
        rw [g1, e1]
        rfl
theorem heap_of8 {H : Type} {enc : TypeId × Value → H} {w : World} {base b0 : Nat} {spare : Nat → Bool} {held : Bool} {v : Value} {d : DataW H} {p : List MemPlace} {r : Reach}
    (hv : Value.okWide Tryd.prog w r b0 28 v) (h : DataW.Trod enc Tryd.prog w base spare held 28 v d p) :
    ∃ (s : Hs) (e : Hd_), v = (.agg #[.slice s.w.a s.w.n s.w.c, .slice s.p.a s.p.n s.p.c, .slice (s.u 0).a (s.u 0).n (s.u 0).c, .slice (s.u 1).a (s.u 1).n (s.u 1).c, .slice (s.u 2).a (s.u 2).n (s.u 2).c, .slice s.c.a s.c.n s.c.c]) ∧ Hp w w.heap.size s e ∧ Fit64 e.ws ∧ s.p.n ≤ s.p.c := by
  obtain ⟨⟨l⟩, rfl, hsz⟩ := okWide_struct Tryd.underlying28 hv
  obtain ⟨fuel, hf⟩ := h
  obtain ⟨xs, k, _, hx, hl, hlen, hg⟩ := DataW.trod_struct Tryd.underlying28 hf
  have hl6 : l.length = 6 := hsz.trans (by kernel_rfl)
  match l, hl6, xs, hlen with
  | [c0, c1, c2, c3, c4, c5], _, [y0, y1, y2, y3], _ =>
    have e22 : Tryd.prog.cellsOf 22 = 1 := by kernel_rfl
    have e23 : Tryd.prog.cellsOf 23 = 1 := by kernel_rfl
    have e25 : Tryd.prog.cellsOf 25 = 3 := by kernel_rfl
    have e26 : Tryd.prog.cellsOf 26 = 1 := by kernel_rfl
    have g0 : DataW.trod enc Tryd.prog w base spare held k 22 [c0] = some y0 := by have := hg 0 _ rfl; simpa [e22, Value.cells] using this
    have g1 : DataW.trod enc Tryd.prog w base spare held k 23 [c1] = some y1 := by have := hg 1 _ rfl; simpa [e23, Value.cells] using this
    have g2 : DataW.trod enc Tryd.prog w base spare held k 25 [c2, c3, c4] = some y2 := by have := hg 2 _ rfl; simpa [e25, Value.cells] using this
    have g3 : DataW.trod enc Tryd.prog w base spare held k 26 [c5] = some y3 := by have := hg 3 _ rfl; simpa [e26, Value.cells] using this
    obtain ⟨s0, zs, h0, r0, _, f0⟩ := ints_in g0
    obtain ⟨s1, f1, h1, r1, c1'⟩ := pin_cap g1
    obtain ⟨u, F, h2, r2, _⟩ := lists_in g2
    obtain ⟨s3, f3, h3, r3⟩ := bools_in g3
    simp only [List.cons.injEq, and_true] at h0 h1 h2 h3
    obtain ⟨rfl, rfl, rfl⟩ := h2
    subst h0 h1 h3
    refine ⟨⟨s0, s1, u, s3⟩, ⟨zs, f1, F, f3⟩, rfl, ⟨r0.1, r1, r2, r3⟩, f0, c1'⟩
end Go.Proofs.YtmalopciboikhaaDoor
end
