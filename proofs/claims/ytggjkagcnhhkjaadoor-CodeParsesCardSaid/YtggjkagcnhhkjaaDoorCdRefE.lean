/-
  The reference's Parse.
-/
import Derived.Test.YtggjkagcnhhkjaaDoorCdRefD
import Derived.Test.YtggjkagcnhhkjaaDoorCdParse
namespace Go.Proofs.YtggjkagcnhhkjaaDoor.Cd
open Go.Proofs.YtggjkagcnhhkjaaDoor Go.Proofs.YtggjkagcnhhkjaaDoor.Rt
open Go.RowKit
set_option maxRecDepth 100000

structure Rn (w wr : World) (L : List UInt8) (pos b : Nat) (l : List O4) (v : Value) : Prop where
  own : wr.ownsRow w.heap.size 28 4 v l.length (ocells (gl l) l.length)
  bel : Below w.heap.size w wr
  may_ : ∀ x ∈ l, may x
  tk : (L ++ [32]).take b = flat l
  bp : b ≤ pos
  pl : pos ≤ L.length + 1
  nob : NoB (L ++ [32]) b pos
  few : l.length ≤ 200
theorem rparse_nil (w : World) : Calls Tryd.prog 17 #[.string (bs [])] w (ParOut w []) := by
  have he : (bs []).toList.isEmpty = true := bs_empty []
  go_enter Tryd.func17, Tryd.ntmps17
  go_wp2
  go_ret2
  exact ⟨Below.refl _ _, .inl ⟨[], ⟨none, 0, 0⟩, ⟨fun x hx => by simp at hx, by simp, rfl⟩, rfl, rd_nil _ _⟩⟩
theorem last_blank (L : List UInt8) (h : L.length < (L ++ [32]).length) : (L ++ [32])[L.length] = 32 := by simp
theorem left_byte (L : List UInt8) {p : Nat} (h : p < L.length) (h' : p < (L ++ [32]).length) : (L ++ [32])[p] = L[p] := List.getElem_append_left h
theorem nob_next {T : List UInt8} {b p : Nat} (h : NoB T b p) (hp : p < T.length) (hu : T[p] ≠ 32) : NoB T b (p + 1) := by
  intro j u hj hb hjp
  by_cases e : j = p
  · subst e
    rw [List.getElem?_eq_getElem hp] at hj
    cases hj
    exact hu
  · exact h j u hj hb (by omega)
theorem cell_four_at (y : O4) {W : World} {n : Nat} {t : TypeId} (h : W.heap.size = n) : ∀ j u, (opc y)[j]? = some u → (W.alloc (.cells #[.int .i64 y.k, .int .i64 y.a, .int .i64 y.b, .int .i64 y.c] t)).cell? ((⟨n, 0, none⟩ : Addr).add j) = some u := by
  subst h
  exact cell_four_new y W t
set_option maxHeartbeats 2000000 in
theorem rparse_some (L : List UInt8) (w : World) (hne : L ≠ []) (hb : L.length ≤ 100000) : Calls Tryd.prog 17 #[.string (bs L)] w (ParOut w L) := by
  obtain ⟨i0, hi, hz0, hz1, hz2⟩ := info_parts info_op
  have he : (bs L).toList.isEmpty = false := (bs_empty L).trans (decide_eq_false hne)
  have hsz : (bs L).size = L.length := bs_size L
  have HNE := Lib.hid hne
  clear hne
  go_enter Tryd.func17, Tryd.ntmps17
  go_wp2
  go_loopw [4, 5, 6] (fun u a i wr => ∃ (v : Value) (pos b : Nat) (l : List O4), v = u ∧ a = .int .i64 b ∧ i = .int .i64 pos ∧ Hid (Rn w wr L pos b l v)) (fun _ _ i _ => L.length + 1 - (intOf i).toNat)
  case atStart => exact ⟨_, 0, 0, [], rfl, rfl, rfl, Lib.hid ⟨World.ownsRow_nil _ _ _ _, Below.refl _ _, fun x hx => by simp at hx, rfl, Nat.le_refl _, Nat.zero_le _, nob_start _ _, by simp⟩⟩
  case round =>
    obtain ⟨v, pos, b, l, rfl, rfl, rfl, HO⟩ := hrel
    by_cases hp : pos < L.length + 1
    · have hTl : (L ++ [32]).length = L.length + 1 := by simp
      have hpT : pos < (L ++ [32]).length := by rw [hTl]; exact hp
      by_cases hblank : (L ++ [32])[pos] = 32
      · have HBL := Lib.hid hblank
        clear hblank
        have hbp := HO.out.bp
        have hple : pos ≤ L.length := by omega
        have hwd : (bs L).extract b pos = bs (((L ++ [32]).take pos).drop b) := by rw [bs_extract, List.take_append_of_le_length hple]
        have HW := Lib.hid (nob_word HO.out.nob)
        have HT3 := Lib.hid (take_three hbp hpT HBL.out)
        have HT4 := Lib.hid (take_all hbp hpT HBL.out)
        have hwl : (((L ++ [32]).take pos).drop b).length ≤ 100000 := by rw [List.length_drop, List.length_take]; omega
        generalize hwe : ((L ++ [32]).take pos).drop b = wd at hwd HW HT3 HT4 hwl
        have HOP : Hid (∀ W, Calls Tryd.prog 27 #[.string ((bs L).extract b pos)] W (OneOut W wd)) := Lib.hid (fun W => by rw [hwd]; exact one_any wd W hwl)
        clear hwd hwe hwl
        by_cases hpl : pos < L.length
        · have hix := fun w => byte_at L pos hpl w
          have hu : (L[pos]'hpl).toNat = 32 := by rw [← left_byte L hpl hpT, HBL.out]; rfl
          rw [hu] at hix
          clear hu
          go_wp2_with fail
          refine (HOP.out _).mono ?_
          rintro e w3 ⟨hb3, y, is, rfl, hyes, hno⟩
          have hlen : l.length ≤ 200 := HO.out.few
          have H3 := Lib.hid (And.intro (own_next HO.out.own hb3) (HO.out.bel.trans (hb3.mono HO.out.bel.size)))
          have hl3 : w.heap.size ≤ w3.heap.size := H3.out.2.size
          obtain ⟨s, hs, hsn, _, _, _, _⟩ := orow_of HO.out.own
          subst hs
          have HSN := Lib.hid hsn
          clear hb3 hsn
          cases is with
          | false =>
            have HN : Hid (∀ m, ¬ Good m L) := Lib.hid (not_good (rest := (L ++ [32]).drop (pos + 1)) HO.out.may_ HW.out (by rw [← HO.out.tk]; exact HT4.out) HNE.out (hno rfl))
            have HBB := Lib.hid (H3.out.2.alloc hl3 (.cells #[.int .i64 y.k, .int .i64 y.a, .int .i64 y.b, .int .i64 y.c] 28))
            clear hyes hno
            unfold opv
            go_wp2
            go_ret2
            exact ⟨HBB.out, .inr ⟨rfl, HN.out⟩⟩
          | true =>
            have HX := Lib.hid (hyes rfl)
            clear hyes hno
            unfold opv
            by_cases hlt : l.length < 200
            · have hnl : ¬ (200 : Int) ≤ (l.length : Int) := by omega
              have HOW := Lib.hid (H3.out.1.alloc (.cells #[.int .i64 y.k, .int .i64 y.a, .int .i64 y.b, .int .i64 y.c] 28))
              have HBB := Lib.hid (H3.out.2.alloc hl3 (.cells #[.int .i64 y.k, .int .i64 y.a, .int .i64 y.b, .int .i64 y.c] 28))
              have hla : (w3.alloc (.cells #[.int .i64 y.k, .int .i64 y.a, .int .i64 y.b, .int .i64 y.c] 28)).heap.size = w3.heap.size + 1 := by simp
              go_wp2_with (at_builtin; refine wpList_append_own _ rfl _ _ 22 rfl w.heap.size 28 i0 (.agg #[.int .i64 0, .int .i64 0, .int .i64 0, .int .i64 0]) 4 32 Tryd.underlying22 hi hz0 hz1 hz2 rfl (by decide) _ _ _ rfl (HOW.out.alloc _) ⟨w3.heap.size + 1, 0, none⟩ 1 1 (opc y) rfl rfl (cell_four_at y hla) (opc_one y) (by unfold maxLen; omega) (by omega) (by simp; omega) ?_; intro v' w4 hown' hgrow4 hnil4)
              have how : w4.ownsRow w.heap.size 28 4 v' (l ++ [y]).length (ocells (gl (l ++ [y])) (l ++ [y]).length) := by
                rw [List.length_append, List.length_singleton, ocells_snoc]
                exact hown'
              refine ⟨⟨_, pos + 1, pos + 1, l ++ [y], rfl, by rfl, by rfl, Lib.hid ⟨how, ?_, ?_, ?_, Nat.le_refl _, by omega, nob_start _ _, by simp; omega⟩⟩, by simp [intOf]; omega⟩
              · exact Below.grown (HBB.out.alloc HBB.out.size _) hgrow4 (by simp; omega) (fun j hj => (HOW.out.lt _ hj).1)
              · intro z hz
                rcases List.mem_append.1 hz with h1 | h1
                · exact HO.out.may_ z h1
                · rw [List.mem_singleton.1 h1]
                  exact HX.out.1
              · rw [HT3.out, HO.out.tk, flat_snoc, HX.out.2]
            · have hnl : (200 : Int) ≤ (l.length : Int) := by omega
              have HN : Hid (∀ m, ¬ Good m L) := Lib.hid (not_good_many (rest := wd ++ 32 :: (L ++ [32]).drop (pos + 1)) HO.out.may_ (by rw [← HO.out.tk]; exact HT4.out) (by omega) (by rw [List.count_append, List.count_cons_self]; omega))
              have HBB := Lib.hid (H3.out.2.alloc hl3 (.cells #[.int .i64 y.k, .int .i64 y.a, .int .i64 y.b, .int .i64 y.c] 28))
              go_wp2
              go_ret2
              exact ⟨HBB.out, .inr ⟨rfl, HN.out⟩⟩
        · have hpn : ¬ (pos : Int) < (L.length : Int) := by omega
          go_wp2_with fail
          refine (HOP.out _).mono ?_
          rintro e w3 ⟨hb3, y, is, rfl, hyes, hno⟩
          have hlen : l.length ≤ 200 := HO.out.few
          have H3 := Lib.hid (And.intro (own_next HO.out.own hb3) (HO.out.bel.trans (hb3.mono HO.out.bel.size)))
          have hl3 : w.heap.size ≤ w3.heap.size := H3.out.2.size
          obtain ⟨s, hs, hsn, _, _, _, _⟩ := orow_of HO.out.own
          subst hs
          have HSN := Lib.hid hsn
          clear hb3 hsn
          cases is with
          | false =>
            have HN : Hid (∀ m, ¬ Good m L) := Lib.hid (not_good (rest := (L ++ [32]).drop (pos + 1)) HO.out.may_ HW.out (by rw [← HO.out.tk]; exact HT4.out) HNE.out (hno rfl))
            have HBB := Lib.hid (H3.out.2.alloc hl3 (.cells #[.int .i64 y.k, .int .i64 y.a, .int .i64 y.b, .int .i64 y.c] 28))
            clear hyes hno
            unfold opv
            go_wp2
            go_ret2
            exact ⟨HBB.out, .inr ⟨rfl, HN.out⟩⟩
          | true =>
            have HX := Lib.hid (hyes rfl)
            clear hyes hno
            unfold opv
            by_cases hlt : l.length < 200
            · have hnl : ¬ (200 : Int) ≤ (l.length : Int) := by omega
              have HOW := Lib.hid (H3.out.1.alloc (.cells #[.int .i64 y.k, .int .i64 y.a, .int .i64 y.b, .int .i64 y.c] 28))
              have HBB := Lib.hid (H3.out.2.alloc hl3 (.cells #[.int .i64 y.k, .int .i64 y.a, .int .i64 y.b, .int .i64 y.c] 28))
              have hla : (w3.alloc (.cells #[.int .i64 y.k, .int .i64 y.a, .int .i64 y.b, .int .i64 y.c] 28)).heap.size = w3.heap.size + 1 := by simp
              go_wp2_with (at_builtin; refine wpList_append_own _ rfl _ _ 22 rfl w.heap.size 28 i0 (.agg #[.int .i64 0, .int .i64 0, .int .i64 0, .int .i64 0]) 4 32 Tryd.underlying22 hi hz0 hz1 hz2 rfl (by decide) _ _ _ rfl (HOW.out.alloc _) ⟨w3.heap.size + 1, 0, none⟩ 1 1 (opc y) rfl rfl (cell_four_at y hla) (opc_one y) (by unfold maxLen; omega) (by omega) (by simp; omega) ?_; intro v' w4 hown' hgrow4 hnil4)
              have how : w4.ownsRow w.heap.size 28 4 v' (l ++ [y]).length (ocells (gl (l ++ [y])) (l ++ [y]).length) := by
                rw [List.length_append, List.length_singleton, ocells_snoc]
                exact hown'
              refine ⟨⟨_, pos + 1, pos + 1, l ++ [y], rfl, by rfl, by rfl, Lib.hid ⟨how, ?_, ?_, ?_, Nat.le_refl _, by omega, nob_start _ _, by simp; omega⟩⟩, by simp [intOf]; omega⟩
              · exact Below.grown (HBB.out.alloc HBB.out.size _) hgrow4 (by simp; omega) (fun j hj => (HOW.out.lt _ hj).1)
              · intro z hz
                rcases List.mem_append.1 hz with h1 | h1
                · exact HO.out.may_ z h1
                · rw [List.mem_singleton.1 h1]
                  exact HX.out.1
              · rw [HT3.out, HO.out.tk, flat_snoc, HX.out.2]
            · have hnl : (200 : Int) ≤ (l.length : Int) := by omega
              have HN : Hid (∀ m, ¬ Good m L) := Lib.hid (not_good_many (rest := wd ++ 32 :: (L ++ [32]).drop (pos + 1)) HO.out.may_ (by rw [← HO.out.tk]; exact HT4.out) (by omega) (by rw [List.count_append, List.count_cons_self]; omega))
              have HBB := Lib.hid (H3.out.2.alloc hl3 (.cells #[.int .i64 y.k, .int .i64 y.a, .int .i64 y.b, .int .i64 y.c] 28))
              go_wp2
              go_ret2
              exact ⟨HBB.out, .inr ⟨rfl, HN.out⟩⟩
      · have hpl : pos < L.length := by
          refine Decidable.byContradiction (fun hn => hblank ?_)
          have hpe : pos = L.length := by omega
          subst hpe
          exact last_blank L hpT
        have hix := fun w => byte_at L pos hpl w
        obtain ⟨u, hu⟩ : ∃ u : Nat, u = (L[pos]'hpl).toNat := ⟨_, rfl⟩
        have hun : ((u : Int) != 32) = true := by
          have : u ≠ 32 := fun e => hblank (by rw [left_byte L hpl hpT]; exact blank_iff.2 (by rw [← hu, e]))
          simp; omega
        have HBL := Lib.hid hblank
        rw [← hu] at hix
        clear hblank hu
        go_wp2
        go_roundw
        case rel => exact ⟨_, pos + 1, b, l, rfl, rfl, by rfl, Lib.hid ⟨HO.out.own, HO.out.bel, HO.out.may_, HO.out.tk, by have := HO.out.bp; omega, by omega, nob_next HO.out.nob hpT HBL.out, HO.out.few⟩⟩
        case measure => simp [intOf]; omega
    · have hpe : pos = L.length + 1 := by have := HO.out.pl; omega
      have hg : Good l L := by
        have hnb := HO.out.nob
        rw [hpe] at hnb
        have hbe := nob_end hnb (by have := HO.out.bp; omega)
        have htk := HO.out.tk
        rw [hbe, List.take_of_length_le (by simp)] at htk
        exact ⟨HO.out.may_, HO.out.few, write_flat htk.symm⟩
      obtain ⟨s, hs, hn, hrow, hnc, hcm, hnew⟩ := orow_of HO.out.own
      have HG := Lib.hid (And.intro hg (And.intro hn (And.intro hrow (And.intro hnc (And.intro hcm hnew)))))
      have HB := Lib.hid HO.out.bel
      clear hg hn hrow hnc hcm hnew hpe HO
      subst hs
      go_wp2
      go_ret2
      exact ⟨HB.out, .inl ⟨l, s, HG.out.1, by rw [HG.out.2.1]; rfl, HG.out.2.1, by rw [HG.out.2.1]; exact HG.out.2.2.1, by rw [HG.out.2.1]; exact HG.out.2.2.2.1, HG.out.2.2.2.2.1, fun h x hx => HG.out.2.2.2.2.2 (by rw [← HG.out.2.1]; exact h) x hx⟩⟩
theorem rparse_any (L : List UInt8) (w : World) (hb : L.length ≤ 100000) : Calls Tryd.prog 17 #[.string (bs L)] w (ParOut w L) := by
  by_cases h : L = []
  · subst h
    exact rparse_nil w
  · exact rparse_some L w h hb
end Go.Proofs.YtggjkagcnhhkjaaDoor.Cd
