/-
  Operations as a text: code.Write.
-/
import Derived.Test.YtggjkagcnhhkjaaDoorCdWord
import Derived.Test.YtggjkagcnhhkjaaDoorCdRdP
import Derived.Deep.Upon
import Derived.Maps.AppendAt
namespace Go.Proofs.YtggjkagcnhhkjaaDoor.Cd
open Go.Proofs.YtggjkagcnhhkjaaDoor Go.Proofs.YtggjkagcnhhkjaaDoor.Rt
open Go.RowKit
set_option maxRecDepth 100000

/-- The text of operations, and its error. -/
def AllMay (l : List O4) : Prop := ∀ x ∈ l, may x
instance (l : List O4) : Decidable (AllMay l) := by unfold AllMay; infer_instance
def writeS (l : List O4) : ByteArray := if 200 < l.length then bs [] else if AllMay l then bs (write l) else bs []
def writeE (l : List O4) : Int := if 200 < l.length then 2 else if AllMay l then 0 else 1
theorem write_long {l : List O4} (h : 200 < l.length) : writeS l = bs [] ∧ writeE l = 2 := ⟨if_pos h, if_pos h⟩
theorem write_yes {l : List O4} (h : l.length ≤ 200) (ha : AllMay l) : writeS l = bs (write l) ∧ writeE l = 0 := by
  unfold writeS writeE
  rw [if_neg (by omega), if_pos ha, if_neg (by omega), if_pos ha]
  exact ⟨rfl, rfl⟩
theorem write_no {l : List O4} (h : l.length ≤ 200) (ha : ¬ AllMay l) : writeS l = bs [] ∧ writeE l = 1 := by
  unfold writeS writeE
  rw [if_neg (by omega), if_neg ha, if_neg (by omega), if_neg ha]
  exact ⟨rfl, rfl⟩
def WrOut (w : World) (l : List O4) (e : Ending) (w' : World) : Prop := e = .returned (.tuple #[.string (writeS l), .int .i64 (writeE l)]) ∧ Below w.heap.size w w'

theorem own_next {w w' : World} {base : Nat} {e : TypeId} {size : Nat} {v : Value} {n : Nat} {xs : List Value} (h : w.ownsRow base e size v n xs) (hb : Below w.heap.size w w') : w'.ownsRow base e size v n xs := by
  refine h.kept (row := none) ⟨hb.os, hb.tape, hb.output, hb.size, fun k hk _ => hb.block k hk⟩ ?_
  cases v.ownBlock with
  | none => exact .inl rfl
  | some k => exact .inr (by intro e; cases e)
theorem info_string : (Tryd.prog.info? 9).map (fun i => (i.zero, i.size, i.bytes)) = some (some (.string ⟨#[]⟩), 1, 16) := by kernel_rfl
/-- Words, as cells. -/
def strs (l : List O4) : List Value := l.map fun x => .string (bs (word x))
theorem strs_snoc (l : List O4) (x : O4) : strs (l ++ [x]) = strs l ++ [.string (bs (word x))] := by simp [strs]
/-- Its words with blanks between are the text. -/
theorem join_write : ∀ l : List O4, Lib.join (l.map word) [32] = write l
  | [] => rfl
  | [x] => Lib.join_one _ _
  | x :: y :: l => by
    have := join_write (y :: l)
    rw [write_cons, ← this]
    simp [Lib.join, List.intercalate]
theorem write_long_any (a : Option Addr) (l : List O4) (c : Nat) (w : World) (h : 200 < l.length) (hn : l.length ≤ maxLen) : Calls Tryd.prog 14 #[.slice a l.length c] w (WrOut w l) := by
  have HW := Lib.hid (write_long h)
  unfold maxLen at hn
  generalize l.length = n at h hn ⊢
  go_enter Tryd.func14, Tryd.ntmps14
  go_wp2
  go_ret2
  exact ⟨by rw [HW.out.1, HW.out.2]; rfl, Below.refl _ _⟩
set_option maxHeartbeats 1000000 in
theorem write_short (a : Option Addr) (l : List O4) (c : Nat) (w : World) (h : l.length ≤ 200) (hT : Tb w) (hr : ORow w w.heap.size a l.length (gl l)) : Calls Tryd.prog 14 #[.slice a l.length c] w (WrOut w l) := by
  obtain ⟨i0, hi, hz0, hz1, hz2⟩ := info_parts info_string
  have HT := Lib.hid hT
  have HR := Lib.hid hr
  obtain ⟨n, hn⟩ : ∃ n, n = l.length := ⟨_, rfl⟩
  have HN := Lib.hid hn
  rw [← hn] at h ⊢
  clear hT hr hn
  go_enter Tryd.func14, Tryd.ntmps14
  go_wp2
  go_loopw [4, 14] (fun u i wr => ∃ (v : Value) (m : Nat), v = u ∧ m ≤ n ∧ i = .int .i64 m ∧ Hid (wr.ownsRow w.heap.size 9 1 v m (strs (l.take m)) ∧ Below w.heap.size w wr ∧ AllMay (l.take m))) (fun _ i _ => 201 - (intOf i).toNat)
  case atStart => exact ⟨_, 0, rfl, by omega, rfl, Lib.hid ⟨World.ownsRow_nil _ _ _ _, Below.refl _ _, fun x hx => by simp at hx⟩⟩
  case round =>
    obtain ⟨v, m, rfl, hm, rfl, HI⟩ := hrel
    by_cases hlt : m < n
    · obtain ⟨b, off, rfl, hbB, hcs⟩ := HR.out (by rw [← HN.out]; omega)
      obtain ⟨q0, q1, q2, q3⟩ := hcs m (by rw [← HN.out]; exact hlt)
      have hx : gl l m = l[m]'(by rw [← HN.out]; exact hlt) := gl_at _
      rw [hx] at q0 q1 q2 q3
      have htk : l.take (m + 1) = l.take m ++ [l[m]'(by rw [← HN.out]; exact hlt)] := by rw [List.take_succ_eq_append_getElem (by rw [← HN.out]; exact hlt)]
      have hmem : l[m]'(by rw [← HN.out]; exact hlt) ∈ l := List.getElem_mem _
      generalize l[m]'(by rw [← HN.out]; exact hlt) = x at q0 q1 q2 q3 htk hmem
      have c0 : wr.cell? ⟨b, off + m * 4, none⟩ = some (.int .i64 x.k) := (HI.out.2.1.cell (p := ⟨b, off + m * 4, none⟩) hbB).trans q0
      have c1 : wr.cell? ⟨b, off + m * 4 + 1, none⟩ = some (.int .i64 x.a) := (HI.out.2.1.cell (p := ⟨b, off + m * 4 + 1, none⟩) hbB).trans q1
      have c2 : wr.cell? ⟨b, off + m * 4 + 2, none⟩ = some (.int .i64 x.b) := (HI.out.2.1.cell (p := ⟨b, off + m * 4 + 2, none⟩) hbB).trans q2
      have c3 : wr.cell? ⟨b, off + m * 4 + 3, none⟩ = some (.int .i64 x.c) := (HI.out.2.1.cell (p := ⟨b, off + m * 4 + 3, none⟩) hbB).trans q3
      have hbl : b < wr.heap.size := Nat.lt_of_lt_of_le hbB HI.out.2.1.size
      have HC : ∀ W, Tb W → Calls Tryd.prog 10 #[.agg #[.int .i64 x.k, .int .i64 x.a, .int .i64 x.b, .int .i64 x.c]] W (WOut W x) := fun W h => word_any x W h
      have HX := Lib.hid (And.intro HC (And.intro htk hmem))
      have HTr := Lib.hid (HT.out.next HI.out.2.1)
      clear q0 q1 q2 q3 hcs hx HC htk hmem
      go_wp2_with fail
      refine (HX.out.1 _ (HTr.out.alloc _)).mono ?_
      rintro e w1 ⟨rfl, hb1⟩
      clear c0 c1 c2 c3 hbl
      have H1 := Lib.hid (And.intro (own_next (HI.out.1.alloc _) hb1) ((HI.out.2.1.alloc HI.out.2.1.size _).trans (hb1.mono (by have := HI.out.2.1.size; simp; omega))))
      clear hb1
      by_cases hmy : may x
      · have HM := Lib.hid (And.intro (word_yes hmy) hmy)
        rw [HM.out.1.1, HM.out.1.2]
        clear hmy
        have hlm : m + 1 ≤ maxLen := by unfold maxLen; omega
        go_wp2_with (at_builtin; refine wpList_append_own _ rfl _ _ 48 rfl w.heap.size 9 i0 (.string ⟨#[]⟩) 1 16 Tryd.underlying48 hi hz0 hz1 hz2 rfl (by decide) _ _ _ rfl (H1.out.1.alloc _) ⟨w1.heap.size, 0, none⟩ 1 1 [.string (bs (word x))] rfl rfl (cell_one_new _ _ _) (by intro u hu; simp at hu; subst hu; rfl) hlm (by omega) (by have := H1.out.2.size; simp; omega) ?_; intro v' w3 hown' hgrow3 hnil3)
        refine ⟨⟨_, m + 1, rfl, by omega, by rfl, Lib.hid ⟨?_, ?_, ?_⟩⟩, by simp [intOf]; omega⟩
        · rw [HX.out.2.1, strs_snoc]
          exact hown'
        · exact Below.grown (H1.out.2.alloc H1.out.2.size _) hgrow3 (by have := H1.out.2.size; simp; omega) (fun j hj => (H1.out.1.lt _ hj).1)
        · rw [HX.out.2.1]
          intro y hy
          rcases List.mem_append.1 hy with h1 | h1
          · exact HI.out.2.2 y h1
          · rw [List.mem_singleton.1 h1]
            exact HM.out.2
      · have HM := Lib.hid (And.intro (word_no hmy) hmy)
        rw [HM.out.1.1, HM.out.1.2]
        clear hmy
        have HW := Lib.hid (write_no (l := l) (by rw [← HN.out]; exact h) (fun ha => HM.out.2 (ha x HX.out.2.2)))
        go_wp2
        go_ret2
        exact ⟨by rw [HW.out.1, HW.out.2]; rfl, H1.out.2⟩
    · obtain rfl : m = n := by omega
      have hall : AllMay l := by
        have := HI.out.2.2
        rwa [HN.out, List.take_length] at this
      have HW := Lib.hid (write_yes (by rw [← HN.out]; exact h) hall)
      have HO : wr.ownsRow w.heap.size 9 1 v m (strs l) := by
        have := HI.out.1
        rw [HN.out, List.take_length] at this
        rw [HN.out]
        exact this
      have HB := Lib.hid HI.out.2.1
      have hJ : Calls Tryd.prog 24 #[v, .string { data := #[32] }] wr fun e w' => e = .returned (.string (bs (write l))) ∧ Below wr.heap.size wr w' := by
        rcases HO.2 with ⟨rfl, h0⟩ | ⟨g, cap, cur, rfl, hb, hh, hnc, hcm, _⟩
        · have hl : l = [] := List.eq_nil_of_length_eq_zero (by rw [← HN.out, h0])
          refine (Tryd.strings_Join_none none 0 _ wr).mono ?_
          rintro e w' ⟨rfl, rfl⟩
          rw [hl]
          exact ⟨rfl, Below.refl _ _⟩
        · by_cases h0 : m = 0
          · subst h0
            have hl : l = [] := List.eq_nil_of_length_eq_zero HN.out.symm
            refine (Tryd.strings_Join_none (some ⟨g, 0, none⟩) cap _ wr).mono ?_
            rintro e w' ⟨rfl, rfl⟩
            rw [hl]
            exact ⟨rfl, Below.refl _ _⟩
          · have e1 : (l.map fun x => bs (word x)).length = m := by rw [List.length_map]; exact HN.out.symm
            have e2 : (l.map fun x => bs (word x)).map (fun s => s.data.toList) = l.map word := by simp [List.map_map, Function.comp_def, list_bs]
            have hlen := write_len l
            have hJ := Tryd.strings_Join g 0 cap (l.map fun x => bs (word x)) { data := #[32] } wr (fun j u hj => by
              have hj' : j < m := by
                have := (List.getElem?_eq_some_iff.1 hj).1
                rwa [e1] at this
              rw [Nat.zero_add, HO.cellAt j (by omega)]
              unfold strs
              rw [List.getElem?_map] at hj ⊢
              cases hq : l[j]? with
              | none => rw [hq] at hj; cases hj
              | some y =>
                rw [hq] at hj
                cases hj
                rfl) (Array.getElem?_eq_some_iff.1 hh).1 (by rw [e1]; omega) (by rw [e1]; exact hnc) (by
              rw [e2]
              show (Lib.join (l.map word) [32]).length ≤ _
              rw [join_write, ← HN.out] at *
              omega)
            rw [e1, e2] at hJ
            refine hJ.mono ?_
            rintro e w' ⟨rfl, hb'⟩
            refine ⟨?_, hb'⟩
            show Ending.returned (.string (bs (Lib.join (l.map word) [32]))) = _
            rw [join_write]
      have HJ := Lib.hid hJ
      clear hJ HO hall
      go_wp2_with fail
      refine HJ.out.mono ?_
      rintro e w1 ⟨rfl, hb1⟩
      have H1 := Lib.hid (HB.out.trans (hb1.mono HB.out.size))
      clear hb1
      go_wp2
      go_ret2
      exact ⟨by rw [HW.out.1, HW.out.2]; rfl, H1.out⟩
theorem write_any (a : Option Addr) (l : List O4) (c : Nat) (w : World) (hn : l.length ≤ maxLen) (hT : Tb w) (hr : ORow w w.heap.size a l.length (gl l)) : Calls Tryd.prog 14 #[.slice a l.length c] w (WrOut w l) := by
  by_cases h : 200 < l.length
  · exact write_long_any a l c w h hn
  · exact write_short a l c w (by omega) hT hr
end Go.Proofs.YtggjkagcnhhkjaaDoor.Cd
