/-
  A text's operations: code.read.
-/
import Derived.Test.YtggjkagcnhhkjaaDoorCdOp
import Derived.Test.YtggjkagcnhhkjaaDoorCdRdP
import Derived.Test.YtggjkagcnhhkjaaDoorCdWrite
import Derived.Test.YtggjkagcnhhkjaaDoorRtRow
namespace Go.Proofs.YtggjkagcnhhkjaaDoor.Cd
open Go.Proofs.YtggjkagcnhhkjaaDoor Go.Proofs.YtggjkagcnhhkjaaDoor.Rt
open Go.RowKit
set_option maxRecDepth 100000

/-- Operations that were read, in new memory. -/
def Rd (w : World) (l : List O4) (v : Ls.Sl) (w' : World) : Prop := v.n = l.length ∧ ORow w' w'.heap.size v.a v.n (gl l) ∧ v.n ≤ v.c ∧ v.c ≤ maxLen ∧ (0 < v.n → ∀ x, v.a = some x → w.heap.size ≤ x.block)
def ReadOut (w : World) (L : List UInt8) (e : Ending) (w' : World) : Prop := Below w.heap.size w w' ∧ ((∃ l v, Good l L ∧ e = .returned (.slice v.a v.n v.c) ∧ Rd w l v w') ∨ (Panics e ∧ ∀ l, ¬ Good l L))
theorem rd_nil (w w' : World) : Rd w [] ⟨none, 0, 0⟩ w' := ⟨rfl, ORow.empty _ _ _ _, Nat.le_refl _, by show (0 : Nat) ≤ maxLen; unfold maxLen; omega, fun h => absurd h (Nat.lt_irrefl 0)⟩
theorem info_op : (Tryd.prog.info? 28).map (fun i => (i.zero, i.size, i.bytes)) = some (some (.agg #[.int .i64 0, .int .i64 0, .int .i64 0, .int .i64 0]), 4, 32) := by kernel_rfl
structure On (w wr : World) (L : List UInt8) (pos b : Nat) (l : List O4) (v : Value) : Prop where
  it : wr.heap[w.heap.size]? = some (.stringIter (bs (L ++ [32])) pos)
  own : wr.ownsRow (w.heap.size + 1) 28 4 v l.length (ocells (gl l) l.length)
  bel : Below w.heap.size w wr
  may_ : ∀ x ∈ l, may x
  tk : (L ++ [32]).take b = flat l
  bp : b ≤ pos
  pl : pos ≤ L.length + 1
  nob : NoB (L ++ [32]) b pos
theorem bs_empty (L : List UInt8) : (bs L).toList.isEmpty = decide (L = []) := by
  have h := bs_eql L []
  have e : (bs []).toList = [] := by simp [bs, ByteArray.toList, ByteArray.toList.loop, ByteArray.size]
  rw [e] at h
  rw [← h]
  cases (bs L).toList <;> rfl
theorem bs_extract (L : List UInt8) (b p : Nat) : (bs L).extract b p = bs ((L.take p).drop b) := by
  apply ByteArray.ext
  apply Array.ext'
  rw [ByteArray.data_extract, Array.toList_extract]
  show L.extract b p = (L.take p).drop b
  rw [List.extract_eq_take_drop, List.take_drop]
  by_cases h : b ≤ p
  · rw [show b + (p - b) = p by omega]
  · rw [List.drop_eq_nil_of_le (by simp; omega), List.drop_eq_nil_of_le (by simp; omega)]
theorem cell_four_new (x : O4) (w : World) (t : TypeId) : ∀ j u, (opc x)[j]? = some u → (w.alloc (.cells #[.int .i64 x.k, .int .i64 x.a, .int .i64 x.b, .int .i64 x.c] t)).cell? ((⟨w.heap.size, 0, none⟩ : Addr).add j) = some u := by
  intro j u hj
  rw [Addr.add_lit, Nat.zero_add]
  exact (Box.new w (opc x) t).cel j u hj
theorem opc_one (x : O4) : ∀ u ∈ opc x, u.oneCell' = true := by
  intro u hu
  simp only [opc, List.mem_cons, List.not_mem_nil, or_false] at hu
  rcases hu with rfl | rfl | rfl | rfl <;> rfl
theorem read_nil (w : World) : Calls Tryd.prog 26 #[.string (bs [])] w (ReadOut w []) := by
  have he : (bs []).toList.isEmpty = true := bs_empty []
  go_enter Tryd.func26, Tryd.ntmps26
  go_wp2
  go_ret
  exact ⟨Below.refl _ _, .inl ⟨[], ⟨none, 0, 0⟩, ⟨fun x hx => by simp at hx, by simp, rfl⟩, rfl, rd_nil _ _⟩⟩
theorem read_many (L : List UInt8) (w : World) (hne : L ≠ []) (hc : 200 ≤ L.count 32) : Calls Tryd.prog 26 #[.string (bs L)] w (ReadOut w L) := by
  have he : (bs L).toList.isEmpty = false := (bs_empty L).trans (decide_eq_false hne)
  have hcount : Calls Tryd.prog 33 #[.string (bs L), .string { data := #[32] }] w fun e w' => e = .returned (.int .i64 (L.count 32)) ∧ w' = w := Tryd.strings_Count_one (bs L) 32 w
  have HC := Lib.hid hcount
  have hcl := List.count_le_length (a := (32 : UInt8)) (l := L)
  have HG : Hid (∀ l, ¬ Good l L) := Lib.hid (fun l hg => absurd (good_count hg) (by omega))
  generalize L.count 32 = n at HC hc hcl
  clear hcount hne
  go_enter Tryd.func26, Tryd.ntmps26
  go_wp2_with fail
  refine HC.out.mono ?_
  rintro e w1 ⟨rfl, rfl⟩
  go_wp2
  exact ⟨rfl, Below.refl _ _, .inr ⟨rfl, HG.out⟩⟩
set_option maxHeartbeats 1000000 in
theorem read_some (L : List UInt8) (w : World) (hne : L ≠ []) (hb : L.length ≤ 100000) (hc : L.count 32 < 200) (hT : Tb w) : Calls Tryd.prog 26 #[.string (bs L)] w (ReadOut w L) := by
  obtain ⟨i0, hi, hz0, hz1, hz2⟩ := info_parts info_op
  have he : (bs L).toList.isEmpty = false := (bs_empty L).trans (decide_eq_false hne)
  have hcount : Calls Tryd.prog 33 #[.string (bs L), .string { data := #[32] }] w fun e w' => e = .returned (.int .i64 (L.count 32)) ∧ w' = w := Tryd.strings_Count_one (bs L) 32 w
  have HC := Lib.hid hcount
  have HT := Lib.hid (And.intro hT (And.intro hne hc))
  have hadd : ∀ w, (Op.stringOp .add (bs L) { data := #[32] }).run Tryd.prog w = .ok (.string (bs (L ++ [32]))) w := fun w => add_bs L [32] w hb (by simp)
  have hsz : (bs L).size = L.length := bs_size L
  generalize hq : L.count 32 = n at HC hc
  have HQ := Lib.hid hq
  clear hcount hne hT hq
  go_enter Tryd.func26, Tryd.ntmps26
  go_wp2_with fail
  refine HC.out.mono ?_
  rintro e w1 ⟨rfl, rfl⟩
  go_wp2
  clear HC
  go_loopw [3, 4] (fun u a wr => ∃ (v : Value) (pos b : Nat) (l : List O4), v = u ∧ a = .int .i64 b ∧ Hid (On w1 wr L pos b l v)) (fun _ _ wr => L.length + 1 - wr.iterPos w1.heap.size)
  case atStart => exact ⟨_, 0, 0, [], rfl, rfl, Lib.hid ⟨World.iter_heap _ _ _, World.ownsRow_nil _ _ _ _, (Below.refl _ _).alloc (Nat.le_refl _) _, fun x hx => by simp at hx, rfl, Nat.le_refl _, Nat.zero_le _, nob_start _ _⟩⟩
  case round =>
    obtain ⟨v, pos, b, l, rfl, rfl, HO⟩ := hrel
    by_cases hp : pos < L.length + 1
    · have hTl : (L ++ [32]).length = L.length + 1 := by simp
      have hpT : pos < (L ++ [32]).length := by rw [hTl]; exact hp
      obtain ⟨⟨r, q⟩, hd⟩ : ∃ z, z = Utf8.decode (bs (L ++ [32])) pos := ⟨_, rfl⟩
      have hd' : Utf8.decode (bs (L ++ [32])) pos = (r, q) := hd.symm
      clear hd
      have hp' : pos < (bs (L ++ [32])).size := by rw [bs_size]; exact hpT
      obtain ⟨d1, d2, _⟩ := decode_width (bs (L ++ [32])) pos hp'
      have d4 := decode_le (bs (L ++ [32])) pos
      rw [hd'] at d1 d2 d4
      rw [bs_size, hTl] at d2
      dsimp only at d1 d2 d4
      have hnx : ∀ ty, (Instr.next (.pointer (some ⟨w1.heap.size, 0, none⟩)) true ty).run Tryd.prog wr = .ok (.tuple #[.bool true, .int .i64 pos, .int .i32 r]) (wr.iterAt w1.heap.size (bs (L ++ [32])) (pos + q)) := fun ty => by
        have := Lib.run_next_any_at (P := Tryd.prog) wr w1.heap.size (bs (L ++ [32])) pos ty HO.out.it hp'
        rw [hd'] at this
        exact this
      have HS := Lib.hid (And.intro (Lib.iterAt_heap wr w1.heap.size (bs (L ++ [32])) pos (pos + q) HO.out.it) (And.intro (ownsRow_iterAt HO.out.own (k := w1.heap.size) (by omega) (bs (L ++ [32])) (pos + q)) (Lib.below_iterAt HO.out.bel (k := w1.heap.size) (Nat.le_refl _) (bs (L ++ [32])) (pos + q))))
      have HPP := Lib.hid (iter_pos HO.out.it)
      have HD := Lib.hid (And.intro hd' (And.intro d1 (And.intro d2 hpT)))
      clear hd' d1 d2 hpT hp' hTl
      generalize wr.iterAt w1.heap.size (bs (L ++ [32])) (pos + q) = w2 at hnx HS
      by_cases hr : r = 32
      · have hrb : ((r : Int) == 32) = true := by rw [hr]; rfl
        have HR := Lib.hid hr
        have hbp := HO.out.bp
        have hpl : pos ≤ L.length := by omega
        clear hr
        have hwd : (bs L).extract b pos = bs (((L ++ [32]).take pos).drop b) := by rw [bs_extract, List.take_append_of_le_length hpl]
        have HBR := Lib.hid (blank_rune HD.out.2.2.2 HD.out.1 HR.out)
        have HW := Lib.hid (nob_word HO.out.nob)
        have HT3 := Lib.hid (take_three hbp HD.out.2.2.2 HBR.out.1)
        have HT4 := Lib.hid (take_all hbp HD.out.2.2.2 HBR.out.1)
        generalize ((L ++ [32]).take pos).drop b = wd at hwd HW HT3 HT4
        have HOP := Lib.hid (show Calls Tryd.prog 34 #[.string ((bs L).extract b pos)] w2 (OpOut w2 wd) by rw [hwd]; exact op_any wd w2 (HT.out.1.next HS.out.2.2))
        clear hwd
        go_wp2_with fail
        refine HOP.out.mono ?_
        rintro e w3 ⟨hb3, (⟨x, hx, hxw, rfl⟩ | ⟨he, hno⟩)⟩
        · have HX := Lib.hid (And.intro hx hxw)
          have H3 := Lib.hid (And.intro (iter_next HS.out.1 hb3) (And.intro (own_next HS.out.2.1 hb3) (HS.out.2.2.trans (hb3.mono HS.out.2.2.size))))
          have HLN : l.length ≤ 100001 := by
            have h1 := flat_len l
            have h2 := congrArg List.length HO.out.tk
            rw [List.length_take, List.length_append] at h2
            simp at h2
            omega
          clear hx hxw hb3
          have hl3 : w1.heap.size + 1 ≤ w3.heap.size := by have := (Array.getElem?_eq_some_iff.1 H3.out.1).1; omega
          unfold opv
          go_wp2_with (at_builtin; refine wpList_append_own _ rfl _ _ 22 rfl (w1.heap.size + 1) 28 i0 (.agg #[.int .i64 0, .int .i64 0, .int .i64 0, .int .i64 0]) 4 32 Tryd.underlying22 hi hz0 hz1 hz2 rfl (by decide) _ _ _ rfl (H3.out.2.1.alloc _) ⟨w3.heap.size, 0, none⟩ 1 1 (opc x) rfl rfl (cell_four_new _ _ _) (opc_one x) (by unfold maxLen; omega) (by omega) (by simp; omega) ?_; intro v' w4 hown' hgrow4 hnil4)
          have hlt3 := (Array.getElem?_eq_some_iff.1 H3.out.1).1
          have hit4 : w4.heap[w1.heap.size]? = some (.stringIter (bs (L ++ [32])) (pos + q)) := by
            rw [hgrow4.block w1.heap.size (by simp; omega) (fun h => by have := (H3.out.2.1.lt _ h.symm).1; omega), Below.heap_alloc _ _ _ hlt3]
            exact H3.out.1
          have hq1 := HBR.out.2
          have how : w4.ownsRow (w1.heap.size + 1) 28 4 v' (l ++ [x]).length (ocells (gl (l ++ [x])) (l ++ [x]).length) := by
            rw [List.length_append, List.length_singleton, ocells_snoc]
            exact hown'
          refine ⟨⟨_, pos + q, pos + 1, l ++ [x], rfl, by rfl, Lib.hid ⟨hit4, how, ?_, ?_, ?_, by omega, HD.out.2.2.1, ?_⟩⟩, ?_⟩
          · exact Below.grown (H3.out.2.2.alloc H3.out.2.2.size _) hgrow4 (by simp; omega) (fun j hj => by have := (H3.out.2.1.lt _ hj).1; omega)
          · intro y hy
            rcases List.mem_append.1 hy with h1 | h1
            · exact HO.out.may_ y h1
            · rw [List.mem_singleton.1 h1]
              exact HX.out.1
          · rw [HT3.out, HO.out.tk, flat_snoc, HX.out.2]
          · rw [hq1]
            exact nob_start _ _
          · have e1 := iter_pos hit4
            have e2 := HPP.out
            have e3 := HD.out.2.1
            omega
        · have HN : Hid (∀ m, ¬ Good m L) := Lib.hid (not_good (rest := (L ++ [32]).drop (pos + 1)) HO.out.may_ HW.out (by rw [← HO.out.tk]; exact HT4.out) HT.out.2.1 hno)
          have HB := Lib.hid (HS.out.2.2.trans (hb3.mono HS.out.2.2.size))
          unfold Panics at he
          subst he
          go_wp2
          exact ⟨rfl, HB.out, .inr ⟨rfl, HN.out⟩⟩
      · have hrb : ((r : Int) == 32) = false := by simp; omega
        have HR := Lib.hid hr
        clear hr
        go_wp2
        go_roundw
        case rel => exact ⟨_, pos + q, b, l, rfl, rfl, Lib.hid ⟨HS.out.1, HS.out.2.1, HS.out.2.2, HO.out.may_, HO.out.tk, by have := HO.out.bp; omega, HD.out.2.2.1, nob_step HO.out.nob HD.out.2.2.2 HD.out.1 HR.out⟩⟩
        case measure =>
          have e1 := iter_pos HS.out.1
          have e2 := HPP.out
          have e3 := HD.out.2.1
          omega
    · have hpe : pos = L.length + 1 := by have := HO.out.pl; omega
      have hp' : ¬ pos < (bs (L ++ [32])).size := by rw [bs_size]; simp; omega
      have hnx : ∀ ty, (Instr.next (.pointer (some ⟨w1.heap.size, 0, none⟩)) true ty).run Tryd.prog wr = .ok (.tuple #[.bool false]) wr := fun ty => Lib.run_next_end_at (P := Tryd.prog) wr w1.heap.size (bs (L ++ [32])) pos ty HO.out.it hp'
      have hg : Good l L := by
        have hnb := HO.out.nob
        rw [hpe] at hnb
        have hbe := nob_end hnb (by have := HO.out.bp; omega)
        have htk := HO.out.tk
        rw [hbe, List.take_of_length_le (by simp)] at htk
        exact good_end HO.out.may_ htk HT.out.2.2
      obtain ⟨s, hs, hn, hrow, hnc, hcm, hnew⟩ := orow_of HO.out.own
      have HG := Lib.hid (And.intro hg (And.intro hn (And.intro hrow (And.intro hnc (And.intro hcm hnew)))))
      have HB := Lib.hid HO.out.bel
      clear hg hn hrow hnc hcm hnew hp hp' hpe HO
      subst hs
      go_wp2
      go_ret
      refine ⟨HB.out, .inl ⟨l, s, HG.out.1, by rw [HG.out.2.1]; rfl, HG.out.2.1, by rw [HG.out.2.1]; exact HG.out.2.2.1, by rw [HG.out.2.1]; exact HG.out.2.2.2.1, HG.out.2.2.2.2.1, fun h x hx => ?_⟩⟩
      have := HG.out.2.2.2.2.2 (by rw [← HG.out.2.1]; exact h) x hx
      omega
theorem read_any (L : List UInt8) (w : World) (hb : L.length ≤ 100000) (hT : Tb w) : Calls Tryd.prog 26 #[.string (bs L)] w (ReadOut w L) := by
  by_cases h : L = []
  · subst h
    exact read_nil w
  · by_cases hc : 200 ≤ L.count 32
    · exact read_many L w h hc
    · exact read_some L w h hb (by omega) hT
end Go.Proofs.YtggjkagcnhhkjaaDoor.Cd
