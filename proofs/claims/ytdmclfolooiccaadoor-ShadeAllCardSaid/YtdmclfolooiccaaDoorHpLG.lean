/-
  Merged texts: ShBlack, LsInts, ShGrey, ShListed, PgSame, HpSame, ShLaw, HpAwake, ShAwake, HpIns, HpLess, HpSix, AlIns, ShIns, ShAllP, HpInv, ShAct.
-/
import Derived.Test.YtdmclfolooiccaaDoorLShShade
import Derived.Test.YtdmclfolooiccaaDoorHpLD
import Derived.Deep.QuietTactic
import Derived.BigQuiet
import Derived.Test.YtdmclfolooiccaaDoorHpLF
import Derived.Test.YtdmclfolooiccaaDoorHpLE
import Derived.Test.YtdmclfolooiccaaDoorHpLB
import Derived.Test.YtdmclfolooiccaaDoorHpLC
import Derived.Deep.CutRange
import Derived.Test.YtdmclfolooiccaaDoorCards
import Derived.Test.YtdmclfolooiccaaDoorTie
import Derived.Deep.SlicePairs
import Derived.Deep.Slices
import Derived.Deep.Fields
import Derived.ProofKit
import Derived.OpenShut
import Derived.ShutString
import Derived.ChangeOld
import Derived.LaidMore
import Derived.Lib.LaidTab
import Derived.Stop.Joined
import Derived.SevenTiedAt
import Derived.Laws.IdiomArrays
import Derived.Test.YtdmclfolooiccaaDoorRows
import Derived.WalkKit
section
namespace Go.Proofs.YtdmclfolooiccaaDoor.Sh
open Go.Proofs.YtdmclfolooiccaaDoor
open Go.RowKit
set_option maxRecDepth 100000

/-- The boxes of a walk through Black. -/
structure Bw (w W : World) (s : Hs) (d : Hd_) (k : Ks) (xs : List Int) : Prop where
  bel : Below w.heap.size w W
  hb : Box6 W w.heap.size s
  kb : CBox W (w.heap.size + 1) k
  rb : T6 W (w.heap.size + 2)
  hp0 : Hp w w.heap.size s d
  wr0 : WRow w w.heap.size k xs
section
variable {w W W' w3 : World} {s t : Hs} {d d' : Hd_} {k : Ks} {xs ys : List Int} {b : Nat}
theorem Bw.hp (h : Bw w W s d k xs) : Hp W W.heap.size s d := h.hp0.next h.bel
theorem Bw.wr (h : Bw w W s d k xs) : WRow W W.heap.size k xs := h.wr0.next h.bel
theorem Bw.same (h : Bw w W s d k xs) (hb : Below (w.heap.size + 3) W W') : Bw w W' s d k xs := by
  have hs : ∀ g, g < w.heap.size + 3 → W'.heap[g]? = W.heap[g]? := fun g hg => hb.block g hg
  exact ⟨h.bel.trans (hb.mono (by omega)), h.hb.same (hs _ (by omega)) hb.size, h.kb.same (hs _ (by omega)) hb.size, h.rb.same (hs _ (by omega)) hb.size, h.hp0, h.wr0⟩
theorem Bw.next (h : Bw w W s d k xs) (hb : Below W.heap.size W W') : Bw w W' s d k xs := h.same (hb.mono (by have := h.rb.lt; omega))
end
section
variable (s : Hs) (d : Hd_) (k : Ks) (xs : List Int) (a : Int) (w : World)
theorem shade_any (hn : xs.length ≤ 1000000) (hp : Hp w w.heap.size s d) (hk : WRow w w.heap.size k xs) (hz : Cl.Sz w) (hf : Fine s d) : Calls Tryd.prog 10 #[(.agg #[.slice s.w.a s.w.n s.w.c, .slice s.p.a s.p.n s.p.c, .slice (s.u 0).a (s.u 0).n (s.u 0).c, .slice (s.u 1).a (s.u 1).n (s.u 1).c, .slice (s.u 2).a (s.u 2).n (s.u 2).c, .slice s.c.a s.c.n s.c.c]), (.agg #[.int .i64 k.ph, .int .i64 k.ep, .bool k.mj, .slice k.wk.a k.wk.n k.wk.c, .bool k.ov, .int .i64 k.pa, .int .i64 k.pf, .int .i64 k.ps, .int .i64 k.pc, .bool k.me]), .int .i64 a] w (ShOut w s k (shD s d k.mj k.ep a) (shO (isC s d k.mj k.ep a 1) xs k.ov) (shX (isC s d k.mj k.ep a 1) xs a)) := by
  have hF := fun (W : World) (h : Sw w W s d k xs) => find_any s d k xs a 1 W h.hp h.wr (hz.over h.bel hz.pos) hf
  unfold shD
  by_cases hc : isC s d k.mj k.ep a 1 = true
  · obtain ⟨h1, h2, h3⟩ := isC_iff.1 hc
    have ho := obj_of h2
    have hv : findV s d k.mj k.ep a 1 = headOf (wd d a) := if_pos hc
    rw [if_pos hc, hc]
    rw [hv, headOf_yes ho.word, decide_eq_true ho.odd, hc] at hF
    exact shade_yes s d k xs a w _ _ _ _ _ _ _ _ rfl rfl hn hp hk hF fun W h => set_okn _ _ _ _ _ _ _ _ _ h.hp (hz.over h.bel hz.pos) hf h2 _ _ _ _ ho.val ho.may (ho.fits false h1.1 h1.2)
  · have hc' : isC s d k.mj k.ep a 1 = false := by simpa using hc
    obtain ⟨z0, z1, z2, z3, z4, z5, hv⟩ := find_form s d k.mj k.ep a 1
    rw [if_neg hc, hc', show shO false xs k.ov = k.ov by simp [shO], show shX false xs a = xs from if_neg (by simp)]
    rw [hv, hc'] at hF
    exact shade_no s d k xs a w _ _ _ _ _ _ hn hp hk hF fun W h => fresh_all s d W h.hp hf
end
end Go.Proofs.YtdmclfolooiccaaDoor.Sh
end
section
namespace Go.Proofs.YtdmclfolooiccaaDoor.Ls
open Go.Proofs.YtdmclfolooiccaaDoor
set_option maxRecDepth 100000
open Go.RowKit

theorem ints_other {xs ys : List Int} {k : Nat} (h : ¬ xs.getD k 0 = ys.getD k 0) : decide (xs = ys) = false := by
  simp only [decide_eq_false_iff_not]
  rintro rfl
  exact h rfl
theorem ints_all {xs ys : List Int} {n : Nat} (h1 : xs.length = n) (h2 : ys.length = n) (h : ∀ j, j < n → xs.getD j 0 = ys.getD j 0) : decide (xs = ys) = true := by
  simp only [decide_eq_true_eq]
  apply List.ext_getElem (by omega)
  intro i hi hj
  have := h i (by omega)
  simpa [List.getD, hi, hj] using this
theorem ints_any (B C : Nat) (A A' : Option Addr) (n m c c' : Nat) (xs ys : List Int) (w : World) (hn : n ≤ 4000000) (hm : m ≤ 4000000) (hr : Row w B A n xs) (hs : Row w C A' m ys) :
    Calls Tryd.prog 17 #[.slice A n c, .slice A' m c'] w fun e w' => e = .returned (.bool (decide (xs = ys))) ∧ ∃ d, w' = w.drewN d := by
  by_cases hnm : n = m
  · subst hnm
    have HR := Lib.hid hr
    have HS := Lib.hid hs
    clear hr hs
    go_enter Tryd.func17, Tryd.ntmps17
    go_wp2
    go_loopw [5] (fun i wr => ∃ k d : Nat, k ≤ n ∧ i = .int .i64 k ∧ wr = w.drewN d ∧ Hid (∀ j, j < k → xs.getD j 0 = ys.getD j 0)) (fun i _ => n - (intOf i).toNat)
    case atStart => exact ⟨0, 0, Nat.zero_le _, rfl, rfl, Lib.hid fun j h => absurd h (by omega)⟩
    case round =>
      obtain ⟨k, d, hk, rfl, rfl, HE⟩ := hrel
      by_cases hlt : k < n
      · obtain ⟨b, off, rfl, _, hc⟩ := HR.out.2 (by omega)
        obtain ⟨b', off', rfl, _, hc'⟩ := HS.out.2 (by omega)
        have h1 := hc k hlt
        have h2 := hc' k hlt
        clear hc hc'
        by_cases he : xs.getD k 0 = ys.getD k 0
        · have HE2 : Hid (∀ j, j < k + 1 → xs.getD j 0 = ys.getD j 0) := Lib.hid fun j hj => by
            by_cases e : j = k
            · rw [e]; exact he
            · exact HE.out j (by omega)
          rw [← he] at h2
          clear he HE
          go_wp2
          go_quiet (fail)
          go_wp2
          go_roundw
          case rel => exact ⟨k + 1, _, by omega, by go_num, rfl, HE2⟩
          case measure => simp [intOf]; omega
        · have HO := Lib.hid (ints_other he)
          obtain ⟨x, hx⟩ : ∃ x, x = xs.getD k 0 := ⟨_, rfl⟩
          obtain ⟨y, hy⟩ : ∃ y, y = ys.getD k 0 := ⟨_, rfl⟩
          rw [← hx, ← hy] at he
          rw [← hx] at h1
          rw [← hy] at h2
          have hd : (x != y) = true := by simpa using he
          clear he hx hy HE
          go_wp2
          go_quiet (fail)
          go_wp2
          go_ret
          exact ⟨rint HO.out.symm, _, World.drewN_drewN _ _ _⟩
      · obtain rfl : k = n := by omega
        have HO := Lib.hid (ints_all HR.out.1 HS.out.1 HE.out)
        clear HE
        go_wp2
        go_ret
        exact ⟨rint HO.out.symm, _, rfl⟩
  · have hd : ((n : Int) != m) = true := by simp; omega
    have HO : Hid (decide (xs = ys) = false) := Lib.hid (by
      simp only [decide_eq_false_iff_not]
      rintro rfl
      exact hnm (hr.1.symm.trans hs.1))
    clear hr hs hnm
    go_enter Tryd.func17, Tryd.ntmps17
    go_wp2
    go_ret
    exact ⟨rint HO.out.symm, 0, rfl⟩
theorem ints_tell (B C : Nat) (A A' : Option Addr) (n m c c' : Nat) (xs ys : List Int) (w : World) (hn : n ≤ 4000000) (hm : m ≤ 4000000) (hr : Row w B A n xs) (hs : Row w C A' m ys) :
    Calls Tryd.prog 17 #[.slice A n c, .slice A' m c'] w (Tells w (decide (xs = ys))) :=
  (ints_any B C A A' n m c c' xs ys w hn hm hr hs).mono fun _ _ ⟨he, d, hd⟩ => ⟨he, by rw [hd]; exact below_drewN (Below.refl _ _) _⟩

/-- Whether two are the same. -/
def sameUp (f g : Nat → List Int) (k : Nat) : Prop := ∀ j, j < k → f j = g j
instance (f g : Nat → List Int) (k : Nat) : Decidable (sameUp f g k) := inferInstanceAs (Decidable (∀ j, j < k → f j = g j))

end Go.Proofs.YtdmclfolooiccaaDoor.Ls
end
section
namespace Go.Proofs.YtdmclfolooiccaaDoor.Sh
open Go.Proofs.YtdmclfolooiccaaDoor
open Go.RowKit
set_option maxRecDepth 100000

theorem row_of {base : Nat} {W : World} {v : Ls.Sl} {xs : List Int} (ho : W.ownsRow base 3 1 (.slice v.a v.n v.c) v.n (xs.map (Value.int .i64))) : Row W W.heap.size v.a v.n xs := by
  obtain ⟨a, c, e, hr, _, _⟩ := Ls.owns_row ho
  simp only [Value.slice.injEq, true_and] at e
  obtain ⟨rfl, rfl⟩ := e
  exact hr
theorem own_step {W W' : World} {base n : Nat} {v : Value} {xs : List Value} (h : W.ownsRow base 3 1 v n xs) (hb : Below W.heap.size W W') : W'.ownsRow base 3 1 v n xs :=
  Ls.World.ownsRow.same h fun g hg _ => hb.block g (h.lt g hg).2
theorem all_step {w W W' : World} {t : Ls.Sl} {xs : List Int} (h : Ls.Alling w W t xs) (hb : Below W.heap.size W W') : Ls.Alling w W' t xs := ⟨own_step h.own hb, h.bel.trans (hb.mono h.bel.size)⟩
theorem take_yes {p : Int → Bool} {xs : List Int} {q : Nat} (h : q < xs.length) (hp : p (xs.getD q 0) = true) : (xs.take (q + 1)).filter p = (xs.take q).filter p ++ [xs.getD q 0] := by
  have g : xs.getD q 0 = xs[q] := by simp [List.getD, h]
  rw [g] at hp ⊢
  rw [List.take_succ_eq_append_getElem h, List.filter_append]
  simp [hp]
theorem take_no {p : Int → Bool} {xs : List Int} {q : Nat} (h : q < xs.length) (hp : p (xs.getD q 0) = false) : (xs.take (q + 1)).filter p = (xs.take q).filter p := by
  have g : xs.getD q 0 = xs[q] := by simp [List.getD, h]
  rw [g] at hp
  rw [List.take_succ_eq_append_getElem h, List.filter_append]
  simp [hp]
section
variable (s : Hs) (d : Hd_) (k : Ks) (xs : List Int) (w : World)
set_option maxHeartbeats 2000000 in
theorem grey_core (us : List Int) (g : Int → Bool) (hul : us.length ≤ 512) (hp : Hp w w.heap.size s d) (hk : WRow w w.heap.size k xs)
    (hU : ∀ W, Lk w W [(w.heap.size, s, d)] [(w.heap.size + 1, k, xs)] → Calls Tryd.prog 15 #[(.agg #[.slice s.w.a s.w.n s.w.c, .slice s.p.a s.p.n s.p.c, .slice (s.u 0).a (s.u 0).n (s.u 0).c, .slice (s.u 1).a (s.u 1).n (s.u 1).c, .slice (s.u 2).a (s.u 2).n (s.u 2).c, .slice s.c.a s.c.n s.c.c])] W (Ls.AllOut W us))
    (hF : ∀ y, ∃ (u o e : Bool) (n b m : Int), ∀ W, Lk w W [(w.heap.size, s, d)] [(w.heap.size + 1, k, xs)] → Calls Tryd.prog 29 #[(.agg #[.slice s.w.a s.w.n s.w.c, .slice s.p.a s.p.n s.p.c, .slice (s.u 0).a (s.u 0).n (s.u 0).c, .slice (s.u 1).a (s.u 1).n (s.u 1).c, .slice (s.u 2).a (s.u 2).n (s.u 2).c, .slice s.c.a s.c.n s.c.c]), (.agg #[.int .i64 k.ph, .int .i64 k.ep, .bool k.mj, .slice k.wk.a k.wk.n k.wk.c, .bool k.ov, .int .i64 k.pa, .int .i64 k.pf, .int .i64 k.ps, .int .i64 k.pc, .bool k.me]), .int .i64 y, .int .i64 2] W (FindOut W (.agg #[.bool u, .bool o, .bool e, .int .i64 n, .int .i64 b, .int .i64 m]) (g y))) :
    Calls Tryd.prog 16 #[(.agg #[.slice s.w.a s.w.n s.w.c, .slice s.p.a s.p.n s.p.c, .slice (s.u 0).a (s.u 0).n (s.u 0).c, .slice (s.u 1).a (s.u 1).n (s.u 1).c, .slice (s.u 2).a (s.u 2).n (s.u 2).c, .slice s.c.a s.c.n s.c.c]), (.agg #[.int .i64 k.ph, .int .i64 k.ep, .bool k.mj, .slice k.wk.a k.wk.n k.wk.c, .bool k.ov, .int .i64 k.pa, .int .i64 k.pf, .int .i64 k.ps, .int .i64 k.pc, .bool k.me])] w (Ls.AllOut w (us.filter g)) := by
  have HP := Lib.hid hp
  have HK := Lib.hid hk
  have HU := Lib.hid hU
  have HF := Lib.hid hF
  obtain ⟨n, hn⟩ : ∃ n, us.length = n := ⟨_, rfl⟩
  rw [hn] at hul
  have HN := Lib.hid hn
  clear hp hk hU hF hn
  go_enter Tryd.func16, Tryd.ntmps16
  go_upto_region 2 with fail
  obtain ⟨W0, hW0⟩ : ∃ W0, W0 = (w.alloc (.cells #[.slice s.w.a s.w.n s.w.c, .slice s.p.a s.p.n s.p.c, .slice (s.u 0).a (s.u 0).n (s.u 0).c, .slice (s.u 1).a (s.u 1).n (s.u 1).c, .slice (s.u 2).a (s.u 2).n (s.u 2).c, .slice s.c.a s.c.n s.c.c] 28)).alloc (.cells #[.int .i64 k.ph, .int .i64 k.ep, .bool k.mj, .slice k.wk.a k.wk.n k.wk.c, .bool k.ov, .int .i64 k.pa, .int .i64 k.pf, .int .i64 k.ps, .int .i64 k.pc, .bool k.me] 30) := ⟨_, rfl⟩
  have K0 := Lib.hid (lk_start HP.out HK.out hW0)
  rw [← hW0]
  clear hW0
  have q0 := (K0.out.at (w.heap.size) s d (by simp)).c0
  have q1 := (K0.out.at (w.heap.size) s d (by simp)).c1
  have q2 := (K0.out.at (w.heap.size) s d (by simp)).c2
  have q3 := (K0.out.at (w.heap.size) s d (by simp)).c3
  have q4 := (K0.out.at (w.heap.size) s d (by simp)).c4
  have q5 := (K0.out.at (w.heap.size) s d (by simp)).c5
  have ql := (K0.out.at (w.heap.size) s d (by simp)).lt
  go_wp2_with fail
  refine (HU.out W0 K0.out).mono ?_
  rintro e9 w2 ⟨⟨va, vn, vc⟩, rfl, ho, hb2⟩
  have K2 := Lib.hid (K0.out.next hb2)
  obtain rfl : vn = n := by have h1 := ho.1; have h2 := HN.out; simp only [List.length_map] at h1; omega
  have R2 := Lib.hid (row_of ho)
  clear hb2 ho K0 HU
  clear q0 q1 q2 q3 q4 q5 ql
  go_wp2
  go_loopw [5, 13] (fun o i wr => ∃ (t : Ls.Sl) (q : Nat), q ≤ vn ∧ o = .slice t.a t.n t.c ∧ i = .int .i64 q ∧ Hid (Ls.Alling w2 wr t ((us.take q).filter g))) (fun _ i _ => vn - (intOf i).toNat)
  case atStart => exact ⟨⟨none, 0, 0⟩, 0, by omega, rfl, rfl, Lib.hid ⟨World.ownsRow_nil _ _ _ _, Below.refl _ _⟩⟩
  case round =>
    obtain ⟨t, q, hq, rfl, rfl, HA⟩ := hrel
    have LA := Lib.hid (K2.out.next HA.out.bel)
    by_cases hlt : q < vn
    · have HQ : Hid (q < us.length) := Lib.hid (by have := HN.out; omega)
      have hR := Row.below R2.out HA.out.bel
      obtain ⟨b, off, rfl, hbl', hcell⟩ := hR.2 (by omega)
      have hq1 := hcell q hlt
      have hbl : b < wr.heap.size := by have := HA.out.bel.size; omega
      obtain ⟨y, hy⟩ : ∃ y, y = us.getD q 0 := ⟨_, rfl⟩
      rw [← hy] at hq1
      have HY := Lib.hid hy
      have htn : t.n + 1 ≤ 4000000 := by
        have h1 := HA.out.len
        have h2 : ((us.take q).filter g).length ≤ (us.take q).length := List.length_filter_le _ _
        rw [List.length_take] at h2
        omega
      obtain ⟨u, o, e, n, m0, m, hf⟩ := HF.out y
      obtain ⟨gy, hg⟩ : ∃ gy, gy = g y := ⟨_, rfl⟩
      rw [← hg] at hf
      clear hcell hy hbl' hR
      have x0 := (LA.out.at (w.heap.size) s d (by simp)).c0
      have x1 := (LA.out.at (w.heap.size) s d (by simp)).c1
      have x2 := (LA.out.at (w.heap.size) s d (by simp)).c2
      have x3 := (LA.out.at (w.heap.size) s d (by simp)).c3
      have x4 := (LA.out.at (w.heap.size) s d (by simp)).c4
      have x5 := (LA.out.at (w.heap.size) s d (by simp)).c5
      have xl := (LA.out.at (w.heap.size) s d (by simp)).lt
      have p0 := (LA.out.cat (w.heap.size + 1) k xs (by simp)).c0
      have p1 := (LA.out.cat (w.heap.size + 1) k xs (by simp)).c1
      have p2 := (LA.out.cat (w.heap.size + 1) k xs (by simp)).c2
      have p3 := (LA.out.cat (w.heap.size + 1) k xs (by simp)).c3
      have p4 := (LA.out.cat (w.heap.size + 1) k xs (by simp)).c4
      have p5 := (LA.out.cat (w.heap.size + 1) k xs (by simp)).c5
      have p6 := (LA.out.cat (w.heap.size + 1) k xs (by simp)).c6
      have p7 := (LA.out.cat (w.heap.size + 1) k xs (by simp)).c7
      have p8 := (LA.out.cat (w.heap.size + 1) k xs (by simp)).c8
      have p9 := (LA.out.cat (w.heap.size + 1) k xs (by simp)).c9
      have pl := (LA.out.cat (w.heap.size + 1) k xs (by simp)).lt
      cases gy
      · have HT := Lib.hid (take_no (p := g) HQ.out (by rw [← HY.out]; exact hg.symm))
        have FX := Lib.hid hf
        clear hf hg
        go_wp2_with fail
        refine (FX.out wr LA.out).mono ?_
        rintro e9 w5 ⟨rfl, hb5⟩
        have HB := Lib.hid (all_step HA.out (hb5.alloc hb5.size (.cells #[.bool u, .bool o, .bool e, .int .i64 n, .int .i64 m0, .int .i64 m] 43)))
        rw [← HT.out] at HB
        clear hb5 FX
        clear x0 x1 x2 x3 x4 x5 xl
        clear p0 p1 p2 p3 p4 p5 p6 p7 p8 p9 pl
        go_wp2
        go_roundw
        case rel => exact ⟨t, q + 1, by omega, rfl, by go_num, HB⟩
        case measure => simp [intOf]; omega
      · have HT := Lib.hid (take_yes (p := g) HQ.out (by rw [← HY.out]; exact hg.symm))
        rw [← HY.out] at HT
        have FX := Lib.hid hf
        clear hf hg
        go_wp2_with fail
        refine (FX.out wr LA.out).mono ?_
        rintro e9 w5 ⟨rfl, hb5⟩
        have HB := Lib.hid (all_step HA.out (hb5.alloc hb5.size (.cells #[.bool u, .bool o, .bool e, .int .i64 n, .int .i64 m0, .int .i64 m] 43)))
        clear hb5 FX
        clear x0 x1 x2 x3 x4 x5 xl
        clear p0 p1 p2 p3 p4 p5 p6 p7 p8 p9 pl
        go_upto_region 7 with fail
        generalize w5.alloc (.cells #[.bool u, .bool o, .bool e, .int .i64 n, .int .i64 m0, .int .i64 m] 43) = w4 at HB ⊢
        go_wp2_with (at_builtin; refine Ls.list_cat rfl _ _ rfl rfl rfl (HB.out.alloc _).own (Ls.row_lit1 _ _) (HB.out.alloc _).bel.size htn ?_)
        intro p' cp' w6 hcat
        have hA6 := (HB.out.alloc _).cat hcat
        rw [← HT.out] at hA6
        have H6 := Lib.hid hA6
        clear hcat hA6
        go_wp2
        go_roundw
        case rel => exact ⟨⟨p', t.n + 1, cp'⟩, q + 1, by omega, rfl, by go_num, H6⟩
        case measure => simp [intOf]; omega
    · obtain rfl : q = vn := by omega
      have HE := Lib.hid (And.intro (own_less' HA.out.own K2.out.bel.size) LA.out.bel)
      have e : us.take q = us := List.take_of_length_le (by have := HN.out; omega)
      rw [e] at HE
      clear e
      go_wp2
      go_ret
      exact ⟨t, rfl, HE.out.1, HE.out.2⟩
theorem grey_any (hp : Hp w w.heap.size s d) (hk : WRow w w.heap.size k xs) (hz : Cl.Sz w) (hf : Fine s d) : Calls Tryd.prog 16 #[(.agg #[.slice s.w.a s.w.n s.w.c, .slice s.p.a s.p.n s.p.c, .slice (s.u 0).a (s.u 0).n (s.u 0).c, .slice (s.u 1).a (s.u 1).n (s.u 1).c, .slice (s.u 2).a (s.u 2).n (s.u 2).c, .slice s.c.a s.c.n s.c.c]), (.agg #[.int .i64 k.ph, .int .i64 k.ep, .bool k.mj, .slice k.wk.a k.wk.n k.wk.c, .bool k.ov, .int .i64 k.pa, .int .i64 k.pf, .int .i64 k.ps, .int .i64 k.pc, .bool k.me])] w (Ls.AllOut w (greyL s d k.mj k.ep)) := by
  refine grey_core s d k xs w (usedL s d) (fun y => isC s d k.mj k.ep y 2) (Nat.le_trans (used_len s d) (allS_len d.f s.p.n)) hp hk (fun W h => pused_any s d W (h.hp w.heap.size s d (by simp)) (hz.over h.bel hz.pos) hf) fun y => ?_
  obtain ⟨z0, z1, z2, z3, z4, z5, hv⟩ := find_form s d k.mj k.ep y 2
  refine ⟨z0, z1, z2, z3, z4, z5, fun W h => ?_⟩
  have := find_any s d k xs y 2 W (h.hp w.heap.size s d (by simp)) (h.wr (w.heap.size + 1) k xs (by simp)) (hz.over h.bel hz.pos) hf
  rwa [hv] at this
end
/-- A heap, and a work list, that are not too great. -/
def fewK (s : Hs) (k : Ks) : Bool := fewH s && decide (k.wk.n ≤ 100)
theorem few_any (s : Hs) (k : Ks) (w : World) : Calls Tryd.prog 8 #[(.agg #[.slice s.w.a s.w.n s.w.c, .slice s.p.a s.p.n s.p.c, .slice (s.u 0).a (s.u 0).n (s.u 0).c, .slice (s.u 1).a (s.u 1).n (s.u 1).c, .slice (s.u 2).a (s.u 2).n (s.u 2).c, .slice s.c.a s.c.n s.c.c]), (.agg #[.int .i64 k.ph, .int .i64 k.ep, .bool k.mj, .slice k.wk.a k.wk.n k.wk.c, .bool k.ov, .int .i64 k.pa, .int .i64 k.pf, .int .i64 k.ps, .int .i64 k.pc, .bool k.me])] w fun e w' => e = .returned (.bool (fewK s k)) ∧ Below w.heap.size w w' := by
  have hb := two_allocs (w := w) (.cells #[.slice s.w.a s.w.n s.w.c, .slice s.p.a s.p.n s.p.c, .slice (s.u 0).a (s.u 0).n (s.u 0).c, .slice (s.u 1).a (s.u 1).n (s.u 1).c, .slice (s.u 2).a (s.u 2).n (s.u 2).c, .slice s.c.a s.c.n s.c.c] 28) (.cells #[.int .i64 k.ph, .int .i64 k.ep, .bool k.mj, .slice k.wk.a k.wk.n k.wk.c, .bool k.ov, .int .i64 k.pa, .int .i64 k.pf, .int .i64 k.ps, .int .i64 k.pc, .bool k.me] 30)
  have cb : CBox ((w.alloc (.cells #[.slice s.w.a s.w.n s.w.c, .slice s.p.a s.p.n s.p.c, .slice (s.u 0).a (s.u 0).n (s.u 0).c, .slice (s.u 1).a (s.u 1).n (s.u 1).c, .slice (s.u 2).a (s.u 2).n (s.u 2).c, .slice s.c.a s.c.n s.c.c] 28)).alloc (.cells #[.int .i64 k.ph, .int .i64 k.ep, .bool k.mj, .slice k.wk.a k.wk.n k.wk.c, .bool k.ov, .int .i64 k.pa, .int .i64 k.pf, .int .i64 k.ps, .int .i64 k.pc, .bool k.me] 30)) (w.heap.size + 1) k := by
    have := CBox.new (w.alloc (.cells #[.slice s.w.a s.w.n s.w.c, .slice s.p.a s.p.n s.p.c, .slice (s.u 0).a (s.u 0).n (s.u 0).c, .slice (s.u 1).a (s.u 1).n (s.u 1).c, .slice (s.u 2).a (s.u 2).n (s.u 2).c, .slice s.c.a s.c.n s.c.c] 28)) k 30
    rwa [World.size_alloc] at this
  have HB := Lib.hid hb
  have CB := Lib.hid cb
  clear hb cb
  cases hf : fewH s
  · have HF := Lib.hid hf
    rw [show fewK s k = false by unfold fewK; rw [hf]; rfl]
    clear hf
    go_enter Tryd.func8, Tryd.ntmps8
    go_wp2_with fail
    refine (rfew_any s _).mono ?_
    rw [HF.out]
    rintro e w1 ⟨rfl, hb1⟩
    have HE := Lib.hid (HB.out.trans (hb1.mono HB.out.size))
    clear hb1
    go_wp2
    go_ret
    exact ⟨rfl, HE.out⟩
  · have HF := Lib.hid hf
    have hk2 : fewK s k = decide (k.wk.n ≤ 100) := by unfold fewK; rw [hf]; rfl
    have HK2 := Lib.hid hk2
    clear hf hk2
    go_enter Tryd.func8, Tryd.ntmps8
    go_wp2_with fail
    refine (rfew_any s _).mono ?_
    rw [HF.out]
    rintro e w1 ⟨rfl, hb1⟩
    have HE := Lib.hid (HB.out.trans (hb1.mono HB.out.size))
    have p3 := (CB.out.next hb1).c3
    have pl := (CB.out.next hb1).lt
    clear hb1
    by_cases h : k.wk.n ≤ 100
    · have h1 : decide ((k.wk.n : Int) ≤ 100) = true := decide_eq_true (by omega)
      have HD := Lib.hid (HK2.out.trans (decide_eq_true h))
      have h2 : decide (k.wk.n ≤ 100) = true := decide_eq_true h
      clear h
      go_wp2
      go_ret
      exact ⟨by rw [HD.out]; rfl, HE.out⟩
    · have h1 : decide ((k.wk.n : Int) ≤ 100) = false := decide_eq_false (by omega)
      have HD := Lib.hid (HK2.out.trans (decide_eq_false h))
      have h2 : decide (k.wk.n ≤ 100) = false := decide_eq_false h
      clear h
      go_wp2
      go_ret
      exact ⟨by rw [HD.out]; rfl, HE.out⟩
end Go.Proofs.YtdmclfolooiccaaDoor.Sh
end
section
namespace Go.Proofs.YtdmclfolooiccaaDoor.Sh
open Go.Proofs.YtdmclfolooiccaaDoor
open Go.RowKit
set_option maxRecDepth 100000

section
variable (s : Hs) (d : Hd_) (k : Ks) (xs g : List Int) (w : World)
end
end Go.Proofs.YtdmclfolooiccaaDoor.Sh
end
section
namespace Go.Proofs.YtdmclfolooiccaaDoor.Cl
open Go.Proofs.YtdmclfolooiccaaDoor
set_option maxRecDepth 100000
open Go.RowKit

end Go.Proofs.YtdmclfolooiccaaDoor.Cl
end
section
namespace Go.Proofs.YtdmclfolooiccaaDoor
open Go.RowKit
set_option maxRecDepth 100000

/-- Two heaps' boxes. -/
structure Two (w W : World) (s t : Hs) (d d2 : Hd_) : Prop where
  bel : Below w.heap.size w W
  b1 : HBox W w.heap.size s
  b2 : HBox W (w.heap.size + 1) t
  h1 : Hp W W.heap.size s d
  h2 : Hp W W.heap.size t d2
theorem Two.next {w W W' : World} {s t : Hs} {d d2 : Hd_} (h : Two w W s t d d2) (hb : Below W.heap.size W W') : Two w W' s t d d2 := ⟨h.bel.trans (hb.mono h.bel.size), h.b1.next hb, h.b2.next hb, h.h1.next hb, h.h2.next hb⟩
end Go.Proofs.YtdmclfolooiccaaDoor
end
section
namespace Go.Proofs.YtdmclfolooiccaaDoor.Sh
open Go.Proofs.YtdmclfolooiccaaDoor
open Go.RowKit
set_option maxRecDepth 100000

section
variable {w w3 w9 W W' : World} {s t : Hs} {d d' : Hd_} {k k' : Ks} {xs ys : List Int} {hs : List (Nat × Hs × Hd_)} {ks : List (Nat × Ks × List Int)} {b c : Nat} {v : Ls.Sl} {o : Bool}
/-- A heap and a collector more, in boxes of their own. -/
theorem Lk.addSh {ty ty' : TypeId} (h : Lk w w3 hs ks) (ha : Ls.Alling w3 w9 v ys) (hp : Hp w9 w9.heap.size t d') (hW : W = (w9.alloc (.cells #[.slice t.w.a t.w.n t.w.c, .slice t.p.a t.p.n t.p.c, .slice (t.u 0).a (t.u 0).n (t.u 0).c, .slice (t.u 1).a (t.u 1).n (t.u 1).c, .slice (t.u 2).a (t.u 2).n (t.u 2).c, .slice t.c.a t.c.n t.c.c] ty)).alloc (.cells #[.int .i64 k.ph, .int .i64 k.ep, .bool k.mj, .slice v.a v.n v.c, .bool o, .int .i64 k.pa, .int .i64 k.pf, .int .i64 k.ps, .int .i64 k.pc, .bool k.me] ty')) : Lk w W ((w9.heap.size, t, d') :: hs) ((w9.heap.size + 1, kw k v o, ys) :: ks) := by
  have b1 : Below w9.heap.size w9 W := by rw [hW]; exact ((Below.refl _ _).alloc (Nat.le_refl _) _).alloc (by simp) _
  have b2 : Below (w9.alloc (.cells #[.slice t.w.a t.w.n t.w.c, .slice t.p.a t.p.n t.p.c, .slice (t.u 0).a (t.u 0).n (t.u 0).c, .slice (t.u 1).a (t.u 1).n (t.u 1).c, .slice (t.u 2).a (t.u 2).n (t.u 2).c, .slice t.c.a t.c.n t.c.c] ty)).heap.size (w9.alloc (.cells #[.slice t.w.a t.w.n t.w.c, .slice t.p.a t.p.n t.p.c, .slice (t.u 0).a (t.u 0).n (t.u 0).c, .slice (t.u 1).a (t.u 1).n (t.u 1).c, .slice (t.u 2).a (t.u 2).n (t.u 2).c, .slice t.c.a t.c.n t.c.c] ty)) W := by rw [hW]; exact (Below.refl _ _).alloc (Nat.le_refl _) _
  have x2 := CBox.new (w9.alloc (.cells #[.slice t.w.a t.w.n t.w.c, .slice t.p.a t.p.n t.p.c, .slice (t.u 0).a (t.u 0).n (t.u 0).c, .slice (t.u 1).a (t.u 1).n (t.u 1).c, .slice (t.u 2).a (t.u 2).n (t.u 2).c, .slice t.c.a t.c.n t.c.c] ty)) (kw k v o) ty'
  rw [World.size_alloc] at x2
  exact ((h.next (ha.bel.trans (b1.mono ha.bel.size))).addH ((HBox.new w9 t ty).next b2) (hp.next b1)).addK (by rw [hW]; exact x2) (WRow.next (k := kw k v o) (row_of ha.own) b1)
end
end Go.Proofs.YtdmclfolooiccaaDoor.Sh
end
section
namespace Go.Proofs.YtdmclfolooiccaaDoor
open Go.RowKit
set_option maxRecDepth 100000

theorem make_ints (n : Nat) (h : n ≤ 1000) (w : World) : (Instr.makeSlice 22 (.int .i64 (n : Int)) (.int .i64 (n : Int))).run Tryd.prog w = .ok (.slice (some ⟨w.heap.size, 0, none⟩) n n) (w.alloc (.cells (madeCells #[.int .i64 0] n) 3)) := by
  obtain ⟨i0, hi, hz0, hz1, hz2⟩ := info_parts Ls.info_int1
  have := run_make (P := Tryd.prog) w 22 3 i0 _ Tryd.underlying22 hi hz0 .i64 .i64 n n (by omega) (Int.le_refl _) (by rw [hz2]; omega) (by omega)
  rw [hz1] at this
  simpa [Value.cells] using this
def sM (g gp gc : Nat) : Hs := ⟨⟨some ⟨g, 0, none⟩, 16, 16⟩, ⟨some ⟨gp, 0, none⟩, 1, 1⟩, Ls.noSl, ⟨some ⟨gc, 0, none⟩, 2, 2⟩⟩
def wsM : List Int := [0, 0, 0, 0, 0, 0, 0, 0, 41, 0, 0, 0, 0, 0, 0, 0]
theorem wsM_at : ∀ i, i < 16 → wsM.getD i 0 = if i = 8 then 41 else 0 := by decide
def dM : Hd_ := ⟨wsM, fun _ => (1, 2), Ls.noLists, fun _ => false⟩
/-- What the example's heap lies in. -/
structure AwM (w wc : World) (b g gp gc : Nat) : Prop where
  hb : wc.heap[b]? = some (.cells #[.slice (some ⟨g, 0, none⟩) 16 16, .slice (some ⟨gp, 0, none⟩) 1 1, .slice none 0 0, .slice none 0 0, .slice none 0 0, .slice (some ⟨gc, 0, none⟩) 2 2] 28)
  hg : wc.heap[g]? = some (.cells (madeCells #[.int .i64 0] 16) 3)
  hp : wc.heap[gp]? = some (.cells #[.int .i64 1, .int .i64 2] 50)
  hc : wc.heap[gc]? = some (zBools 2)
  ap : ¬ g = gp ∧ ¬ g = gc ∧ ¬ g = b
  old : w.heap.size ≤ g
  bel : Below w.heap.size w wc
theorem four (W : World) (o1 o2 o3 o4 : Obj) : ((((W.alloc o1).alloc o2).alloc o3).alloc o4).heap[W.heap.size]? = some o1 ∧ ((((W.alloc o1).alloc o2).alloc o3).alloc o4).heap[W.heap.size + 1]? = some o2 ∧
    ((((W.alloc o1).alloc o2).alloc o3).alloc o4).heap[W.heap.size + 1 + 1]? = some o3 ∧ ((((W.alloc o1).alloc o2).alloc o3).alloc o4).heap[W.heap.size + 1 + 1 + 1]? = some o4 := by
  refine ⟨?_, ?_, ?_, ?_⟩
  · rw [Below.heap_alloc _ _ _ (by simp only [World.size_alloc]; omega), Below.heap_alloc _ _ _ (by simp only [World.size_alloc]; omega), Below.heap_alloc _ _ _ (by simp only [World.size_alloc]; omega)]
    exact World.alloc_heap_new W o1
  · rw [Below.heap_alloc _ _ _ (by simp only [World.size_alloc]; omega), Below.heap_alloc _ _ _ (by simp only [World.size_alloc]; omega)]
    have := World.alloc_heap_new (W.alloc o1) o2
    rwa [World.size_alloc] at this
  · rw [Below.heap_alloc _ _ _ (by simp)]
    have := World.alloc_heap_new ((W.alloc o1).alloc o2) o3
    rwa [World.size_alloc, World.size_alloc] at this
  · have := World.alloc_heap_new (((W.alloc o1).alloc o2).alloc o3) o4
    rwa [World.size_alloc, World.size_alloc, World.size_alloc] at this
theorem four_below (W : World) (o1 o2 o3 o4 : Obj) (q : Nat) : Below W.heap.size W (((((W.alloc o1).alloc o2).alloc o3).alloc o4).drewN q) :=
  below_drawn' (((((Below.refl _ _).alloc (Nat.le_refl _) o1).alloc (by simp) o2).alloc (by simp; omega) o3).alloc (by simp; omega) o4) q
theorem aw_box {w wc : World} {b g gp gc : Nat} (h : AwM w wc b g gp gc) : HBox wc b (sM g gp gc) := by
  have := h.hb
  exact ⟨by simp [World.cell?, this, sM], by simp [World.cell?, this, sM], by simp [World.cell?, this, sM, Ls.noSl], by simp [World.cell?, this, sM, Ls.noSl], by simp [World.cell?, this, sM, Ls.noSl], by simp [World.cell?, this, sM], (Array.getElem?_eq_some_iff.1 this).1⟩
theorem aw_word {w wc : World} {b g gp gc : Nat} (h : AwM w wc b g gp gc) : wc.cell? ⟨g, 8, none⟩ = some (.int .i64 0) ∧ wc.frozen? ⟨g, 8, none⟩ = false ∧ g < wc.heap.size := by
  have := h.hg
  exact ⟨by simp [World.cell?, this, madeCells], by simp [World.frozen?, this], (Array.getElem?_eq_some_iff.1 this).1⟩
theorem aw_store {w wc : World} {b g gp gc : Nat} (h : AwM w wc b g gp gc) :
    HBox (wc.setCell ⟨g, 8, none⟩ (.int .i64 41)) b (sM g gp gc) ∧ Hp (wc.setCell ⟨g, 8, none⟩ (.int .i64 41)) (wc.setCell ⟨g, 8, none⟩ (.int .i64 41)).heap.size (sM g gp gc) dM ∧ Below w.heap.size w (wc.setCell ⟨g, 8, none⟩ (.int .i64 41)) := by
  have hs : ∀ k, ¬ k = g → (wc.setCell ⟨g, 8, none⟩ (.int .i64 41)).heap[k]? = wc.heap[k]? := fun k hk => Below.heap_setCell _ _ _ _ hk
  have hz : (wc.setCell ⟨g, 8, none⟩ (.int .i64 41)).heap.size = wc.heap.size := by simp [World.setCell]
  obtain ⟨a1, a2, a3⟩ := h.ap
  refine ⟨(aw_box h).same (hs b (fun e => a3 e.symm)) (by rw [hz]; exact Nat.le_refl _), ⟨⟨rfl, fun _ => ⟨g, 0, rfl, by rw [hz]; exact (aw_word h).2.2, fun i hi => ?_⟩⟩, fun _ => ⟨gp, 0, rfl, by rw [hz]; exact (Array.getElem?_eq_some_iff.1 h.hp).1, fun i hi => ?_⟩, Ls.L3.none_ _ _, fun _ => ⟨gc, 0, rfl, by rw [hz]; exact (Array.getElem?_eq_some_iff.1 h.hc).1, fun i hi => ?_⟩⟩, h.bel.setCell (p := ⟨g, 8, none⟩) h.old _⟩
  · have hi' : i < 16 := hi
    by_cases e : i = 8
    · subst e
      have := World.cell?_setCell_same' wc ⟨g, 8, none⟩ (.int .i64 41) (by rw [(aw_word h).1]; rfl)
      simpa [dM, wsM] using this
    · rw [World.cell?_setCell_other _ _ _ _ (by intro hh; simp only [Addr.mk.injEq, true_and, and_true] at hh; omega)]
      have h2 : wc.cell? ⟨g, 0 + i, none⟩ = some (.int .i64 0) := by simp [World.cell?, h.hg, madeCells, hi', Nat.mod_one]
      rw [h2]
      have : wsM.getD i 0 = 0 := by rw [wsM_at i hi', if_neg e]
      show _ = some (Value.int .i64 (wsM.getD i 0))
      rw [this]
  · obtain rfl : i = 0 := by have : i < 1 := hi; omega
    constructor
    · rw [World.cell?_of_block (a := ⟨gp, 0 + 0 * 2, none⟩) (hs gp (fun e => a1 e.symm))]
      simp [World.cell?, h.hp, dM]
    · rw [World.cell?_of_block (a := ⟨gp, 0 + 0 * 2 + 1, none⟩) (hs gp (fun e => a1 e.symm))]
      simp [World.cell?, h.hp, dM]
  · have hi' : i < 2 := hi
    rw [World.cell?_of_block (a := ⟨gc, 0 + i, none⟩) (hs gc (fun e => a2 e.symm))]
    simp [World.cell?, h.hc, zBools, madeCells, hi', Nat.mod_one, dM]
def dZ : Hd_ := ⟨List.replicate 32 0, fun _ => (0, 0), Ls.noLists, fun _ => false⟩
def dK : Hd_ := ⟨wsM, fun _ => (1, 2), fun j => if j = 2 then [16] else [], fun _ => false⟩
theorem fine_M (g gp gc : Nat) : Fine (sM g gp gc) dM := by
  refine ⟨by show (16 : Nat) ≤ 4000; omega, by show (1 : Nat) ≤ 200; omega, by show (2 : Nat) ≤ 100000; omega, fun i => ?_, by decide⟩
  show -9223372036854775808 ≤ wsM.getD i 0 ∧ wsM.getD i 0 ≤ 9223372036854775807
  have : wsM.getD i 0 = 0 ∨ wsM.getD i 0 = 41 := by
    by_cases h : i < 16
    · rw [wsM_at i h]
      split <;> simp
    · left
      simp [List.getD, List.getElem?_eq_none (show wsM.length ≤ i from by show 16 ≤ i; omega)]
  omega
/-- What the example holds: three heaps in their boxes, a head. -/
structure Six (w : World) (b1 b bk bx : Nat) (s1 s3 sk : Hs) (W : World) : Prop where
  h : HBox W b1 s1
  m : HBox W b s3
  k : HBox W bk sk
  ph : Hp W W.heap.size s1 dZ
  pm : Hp W W.heap.size s3 dM
  pk : Hp W W.heap.size sk dK
  n : W.cell? ⟨bx, 3, none⟩ = some (.int .i64 5)
  nl : bx < W.heap.size
  bel : Below w.heap.size w W
theorem Six.next {w W W' : World} {b1 b bk bx : Nat} {s1 s3 sk : Hs} (h : Six w b1 b bk bx s1 s3 sk W) (hb : Below W.heap.size W W') (h0 : w.heap.size ≤ W.heap.size) : Six w b1 b bk bx s1 s3 sk W' :=
  ⟨h.h.next hb, h.m.next hb, h.k.next hb, h.ph.next hb, h.pm.next hb, h.pk.next hb, (hb.cell (p := ⟨bx, 3, none⟩) h.nl).trans h.n, Nat.lt_of_lt_of_le h.nl hb.size, h.bel.trans (hb.mono h0)⟩
end Go.Proofs.YtdmclfolooiccaaDoor
end
section
namespace Go.Proofs.YtdmclfolooiccaaDoor.Sh
open Go.Proofs.YtdmclfolooiccaaDoor
open Go.RowKit
set_option maxRecDepth 100000

def cA : Ks := ⟨0, 1, false, ⟨none, 0, 0⟩, false, 0, 0, 0, 0, false⟩
def dS : Hd_ := dHd dM 24 false 1
theorem isA (g gp gc : Nat) : isC (sM g gp gc) dM false 1 24 1 = true := by kernel_rfl
theorem shA (g gp gc : Nat) : shD (sM g gp gc) dM false 1 24 = dS := if_pos (isA g gp gc)
theorem greyA {g gp gc : Nat} {t : Hs} (h : Lens (sM g gp gc) t) : greyL t dS false 1 = [24] := by
  obtain ⟨⟨a1, n1, c1⟩, ⟨a2, n2, c2⟩, u, ⟨a3, n3, c3⟩⟩ := t
  obtain ⟨h1, h2, _, h4⟩ := h
  dsimp only [sM] at h1 h2 h4
  subst h1 h2 h4
  kernel_rfl
theorem whiteA {g gp gc : Nat} {t : Hs} (h : Lens (sM g gp gc) t) : isC t dS false 1 24 1 = false := by
  have := sh_white (d := dM) (mj := false) (ep := 1) (a := 24) h (by rfl)
  rwa [shA] at this
theorem fineA {g gp gc : Nat} {t : Hs} (h : Lens (sM g gp gc) t) : Fine t dS := by
  have := (kin_sh (d := dM) h (by rfl) false 1 24).fine (fine_M g gp gc)
  rwa [shA] at this
theorem callA (m mp mc : Nat) (W : World) (hp : Hp W W.heap.size (sM m mp mc) dM) (hk : WRow W W.heap.size cA []) (hz : Cl.Sz W) : Calls Tryd.prog 10 #[(.agg #[.slice (sM m mp mc).w.a (sM m mp mc).w.n (sM m mp mc).w.c, .slice (sM m mp mc).p.a (sM m mp mc).p.n (sM m mp mc).p.c, .slice ((sM m mp mc).u 0).a ((sM m mp mc).u 0).n ((sM m mp mc).u 0).c, .slice ((sM m mp mc).u 1).a ((sM m mp mc).u 1).n ((sM m mp mc).u 1).c, .slice ((sM m mp mc).u 2).a ((sM m mp mc).u 2).n ((sM m mp mc).u 2).c, .slice (sM m mp mc).c.a (sM m mp mc).c.n (sM m mp mc).c.c]), (.agg #[.int .i64 cA.ph, .int .i64 cA.ep, .bool cA.mj, .slice cA.wk.a cA.wk.n cA.wk.c, .bool cA.ov, .int .i64 cA.pa, .int .i64 cA.pf, .int .i64 cA.ps, .int .i64 cA.pc, .bool cA.me]), .int .i64 24] W (ShOut W (sM m mp mc) cA dS false [24]) := by
  have := shade_any (sM m mp mc) dM cA [] 24 W (by simp) hp hk hz (fine_M m mp mc)
  rw [show shD (sM m mp mc) dM cA.mj cA.ep 24 = dS from shA m mp mc, show isC (sM m mp mc) dM cA.mj cA.ep 24 1 = true from isA m mp mc] at this
  exact this
theorem lk_A {w w3 W : World} {b m mp mc : Nat} {ty : TypeId} (hb : HBox w3 b (sM m mp mc)) (hp : Hp w3 w3.heap.size (sM m mp mc) dM) (bel : Below w.heap.size w w3) (hW : W = w3.alloc (.cells #[.int .i64 cA.ph, .int .i64 cA.ep, .bool cA.mj, .slice cA.wk.a cA.wk.n cA.wk.c, .bool cA.ov, .int .i64 cA.pa, .int .i64 cA.pf, .int .i64 cA.ps, .int .i64 cA.pc, .bool cA.me] ty)) : Lk w W [(b, sM m mp mc, dM)] [(w3.heap.size, cA, [])] := by
  have b1 : Below w3.heap.size w3 W := by rw [hW]; exact (Below.refl _ _).alloc (Nat.le_refl _) _
  refine ⟨bel.trans (b1.mono bel.size), fun x hx => ?_, fun x hx => ?_⟩
  · obtain rfl := List.mem_singleton.1 hx
    exact ⟨hb.next b1, hp.next b1⟩
  · obtain rfl := List.mem_singleton.1 hx
    exact ⟨by rw [hW]; exact CBox.new w3 cA ty, Row.none_ _ _⟩
set_option maxHeartbeats 4000000 in
theorem awake_any (w : World) (hz : Cl.Sz w) : Calls Tryd.prog 7 #[] w fun e w' => e = .returned (.bool true) ∧ Below w.heap.size w w' := by
  have HZ := Lib.hid hz
  have hz0 := hz.pos
  have mi := make_ints 16 (by omega)
  have mb := make_bools 2 (by omega)
  simp only [show ((2 : Nat) : Int) = 2 from rfl, show ((16 : Nat) : Int) = 16 from rfl] at mi mb
  clear hz
  go_enter Tryd.func7, Tryd.ntmps7
  go_upto_region 1 with (fail)
  go_cut [1] from 7 to 46 (fun v wc => ∃ b g gp gc : Nat, v = .pointer (some ⟨b, 0, none⟩) ∧ Hid (AwM w wc b g gp gc))
  case first =>
    go_region
    all_goals go_wp2_with fail
    all_goals go_meet
    all_goals exact ⟨_, _, _, _, rfl, Lib.hid ⟨(by first | exact (four _ _ _ _ _).1 | exact (four _ _ _ _ _).2.1 | exact (four _ _ _ _ _).2.2.1 | exact (four _ _ _ _ _).2.2.2), (by first | exact (four _ _ _ _ _).1 | exact (four _ _ _ _ _).2.1 | exact (four _ _ _ _ _).2.2.1 | exact (four _ _ _ _ _).2.2.2), (by first | exact (four _ _ _ _ _).1 | exact (four _ _ _ _ _).2.1 | exact (four _ _ _ _ _).2.2.1 | exact (four _ _ _ _ _).2.2.2), (by first | exact (four _ _ _ _ _).1 | exact (four _ _ _ _ _).2.1 | exact (four _ _ _ _ _).2.2.1 | exact (four _ _ _ _ _).2.2.2), ⟨by omega, by omega, by omega⟩, by omega, four_below _ _ _ _ _ _⟩⟩
  case rest =>
    obtain ⟨b, m, mp, mc, rfl, HA⟩ := hcut
    have hbx := aw_box HA.out
    have q0 := hbx.c0
    have ql := hbx.lt
    obtain ⟨c8, f8, l8⟩ := aw_word HA.out
    have HS := Lib.hid (aw_store HA.out)
    dsimp only [sM] at q0
    clear hbx
    go_upto_region 3 with (fail)
    clear c8 f8 l8 q0 ql HA
    generalize wc.setCell ⟨m, 8, none⟩ (.int .i64 41) = w3 at HS ⊢
    go_upto_region 4 with (fail)
    obtain ⟨W4, hW4⟩ : ∃ W4, W4 = w3.alloc (.cells #[.int .i64 0, .int .i64 1, .bool false, .slice none 0 0, .bool false, .int .i64 0, .int .i64 0, .int .i64 0, .int .i64 0, .bool false] 30) := ⟨_, rfl⟩
    obtain ⟨bc, hbc⟩ : ∃ bc, bc = w3.heap.size := ⟨_, rfl⟩
    have L4 := Lib.hid (lk_A HS.out.1 HS.out.2.1 HS.out.2.2 hW4)
    rw [← hbc] at L4
    rw [← hW4, ← hbc]
    clear hW4 hbc HS
    have q0 := (L4.out.at b (sM m mp mc) dM (by simp)).c0
    have q1 := (L4.out.at b (sM m mp mc) dM (by simp)).c1
    have q2 := (L4.out.at b (sM m mp mc) dM (by simp)).c2
    have q3 := (L4.out.at b (sM m mp mc) dM (by simp)).c3
    have q4 := (L4.out.at b (sM m mp mc) dM (by simp)).c4
    have q5 := (L4.out.at b (sM m mp mc) dM (by simp)).c5
    have ql := (L4.out.at b (sM m mp mc) dM (by simp)).lt
    have p0 := (L4.out.cat bc cA [] (by simp)).c0
    have p1 := (L4.out.cat bc cA [] (by simp)).c1
    have p2 := (L4.out.cat bc cA [] (by simp)).c2
    have p3 := (L4.out.cat bc cA [] (by simp)).c3
    have p4 := (L4.out.cat bc cA [] (by simp)).c4
    have p5 := (L4.out.cat bc cA [] (by simp)).c5
    have p6 := (L4.out.cat bc cA [] (by simp)).c6
    have p7 := (L4.out.cat bc cA [] (by simp)).c7
    have p8 := (L4.out.cat bc cA [] (by simp)).c8
    have p9 := (L4.out.cat bc cA [] (by simp)).c9
    have pl := (L4.out.cat bc cA [] (by simp)).lt
    dsimp only [sM, Ls.noSl] at q0 q1 q2 q3 q4 q5
    dsimp only [cA] at p0 p1 p2 p3 p4 p5 p6 p7 p8 p9
    go_wp2_with fail
    refine (callA m mp mc W4 (L4.out.hp b (sM m mp mc) dM (by simp)) (L4.out.wr bc cA [] (by simp)) (HZ.out.over L4.out.bel hz0)).mono ?_
    rintro e w5 ⟨t, v, rfl, hp5, hl5, _, ha5⟩
    have TL := Lib.hid hl5
    have AP := Lib.hid (And.intro ha5 hp5)
    clear hp5 hl5 ha5
    clear q0 q1 q2 q3 q4 q5 ql
    clear p0 p1 p2 p3 p4 p5 p6 p7 p8 p9 pl
    go_upto_region 5 with (fail)
    obtain ⟨W6, hW6⟩ : ∃ W6, W6 = (w5.alloc (.cells #[.slice t.w.a t.w.n t.w.c, .slice t.p.a t.p.n t.p.c, .slice (t.u 0).a (t.u 0).n (t.u 0).c, .slice (t.u 1).a (t.u 1).n (t.u 1).c, .slice (t.u 2).a (t.u 2).n (t.u 2).c, .slice t.c.a t.c.n t.c.c] 28)).alloc (.cells #[.int .i64 cA.ph, .int .i64 cA.ep, .bool cA.mj, .slice v.a v.n v.c, .bool false, .int .i64 cA.pa, .int .i64 cA.pf, .int .i64 cA.ps, .int .i64 cA.pc, .bool cA.me] 30) := ⟨_, rfl⟩
    obtain ⟨b6, hb6⟩ : ∃ b6, b6 = w5.heap.size := ⟨_, rfl⟩
    have L6 := Lib.hid (L4.out.addSh AP.out.1 AP.out.2 hW6)
    rw [← hb6] at L6
    rw [← hW6, ← hb6]
    clear hW6 hb6 AP L4
    have p3 := (L6.out.cat (b6 + 1) (kw cA v false) [24] (by simp)).c3
    have pl := (L6.out.cat (b6 + 1) (kw cA v false) [24] (by simp)).lt
    dsimp only [kw] at p3
    have hvn : v.n ≤ 4000000 := by have := (L6.out.wr (b6 + 1) (kw cA v false) [24] (by simp)).len; simp [kw] at this; omega
    go_wp2_with fail
    have hbl := (Below.refl W6.heap.size W6).alloc (Nat.le_refl _) (.cells #[.int .i64 24] 3)
    refine (Ls.ints_tell _ _ v.a _ v.n 1 v.c 1 [24] [24] _ hvn (by omega) (Row.below (L6.out.wr (b6 + 1) (kw cA v false) [24] (by simp)) hbl) (Ls.row_lit1 W6 24)).mono ?_
    rw [decide_eq_true rfl]
    rintro e w7 ⟨rfl, hb7⟩
    have L7 := Lib.hid (L6.out.next (hbl.trans (hb7.mono hbl.size)))
    clear hbl hb7 p3 pl L6
    have q0 := (L7.out.at b6 t dS (by simp)).c0
    have q1 := (L7.out.at b6 t dS (by simp)).c1
    have q2 := (L7.out.at b6 t dS (by simp)).c2
    have q3 := (L7.out.at b6 t dS (by simp)).c3
    have q4 := (L7.out.at b6 t dS (by simp)).c4
    have q5 := (L7.out.at b6 t dS (by simp)).c5
    have ql := (L7.out.at b6 t dS (by simp)).lt
    have p0 := (L7.out.cat (b6 + 1) (kw cA v false) [24] (by simp)).c0
    have p1 := (L7.out.cat (b6 + 1) (kw cA v false) [24] (by simp)).c1
    have p2 := (L7.out.cat (b6 + 1) (kw cA v false) [24] (by simp)).c2
    have p3 := (L7.out.cat (b6 + 1) (kw cA v false) [24] (by simp)).c3
    have p4 := (L7.out.cat (b6 + 1) (kw cA v false) [24] (by simp)).c4
    have p5 := (L7.out.cat (b6 + 1) (kw cA v false) [24] (by simp)).c5
    have p6 := (L7.out.cat (b6 + 1) (kw cA v false) [24] (by simp)).c6
    have p7 := (L7.out.cat (b6 + 1) (kw cA v false) [24] (by simp)).c7
    have p8 := (L7.out.cat (b6 + 1) (kw cA v false) [24] (by simp)).c8
    have p9 := (L7.out.cat (b6 + 1) (kw cA v false) [24] (by simp)).c9
    have pl := (L7.out.cat (b6 + 1) (kw cA v false) [24] (by simp)).lt
    dsimp only [kw] at p0 p1 p2 p3 p4 p5 p6 p7 p8 p9
    go_wp2_with fail
    refine (grey_any t dS (kw cA v false) [24] w7 (L7.out.hp b6 t dS (by simp)) (L7.out.wr (b6 + 1) (kw cA v false) [24] (by simp)) (HZ.out.over L7.out.bel hz0) (fineA TL.out)).mono ?_
    rw [show greyL t dS (kw cA v false).mj (kw cA v false).ep = [24] from greyA TL.out]
    rintro e w8 ⟨⟨ga, gn, gc⟩, rfl, ho8, hb8⟩
    have L8 := Lib.hid (L7.out.next hb8)
    have hgn : gn ≤ 4000000 := by have := ho8.1; simp at this; omega
    have R8 := Lib.hid (row_of ho8)
    clear hb8 ho8 L7
    clear q0 q1 q2 q3 q4 q5 ql
    clear p0 p1 p2 p3 p4 p5 p6 p7 p8 p9 pl
    go_wp2_with fail
    have hbl := (Below.refl w8.heap.size w8).alloc (Nat.le_refl _) (.cells #[.int .i64 24] 3)
    refine (Ls.ints_tell _ _ ga _ gn 1 gc 1 [24] [24] _ hgn (by omega) (Row.below R8.out hbl) (Ls.row_lit1 w8 24)).mono ?_
    rw [decide_eq_true rfl]
    rintro e w9 ⟨rfl, hb9⟩
    have L9 := Lib.hid (L8.out.next (hbl.trans (hb9.mono hbl.size)))
    clear hbl hb9 L8 R8
    have q0 := (L9.out.at b (sM m mp mc) dM (by simp)).c0
    have q1 := (L9.out.at b (sM m mp mc) dM (by simp)).c1
    have q2 := (L9.out.at b (sM m mp mc) dM (by simp)).c2
    have q3 := (L9.out.at b (sM m mp mc) dM (by simp)).c3
    have q4 := (L9.out.at b (sM m mp mc) dM (by simp)).c4
    have q5 := (L9.out.at b (sM m mp mc) dM (by simp)).c5
    have ql := (L9.out.at b (sM m mp mc) dM (by simp)).lt
    have p0 := (L9.out.cat bc cA [] (by simp)).c0
    have p1 := (L9.out.cat bc cA [] (by simp)).c1
    have p2 := (L9.out.cat bc cA [] (by simp)).c2
    have p3 := (L9.out.cat bc cA [] (by simp)).c3
    have p4 := (L9.out.cat bc cA [] (by simp)).c4
    have p5 := (L9.out.cat bc cA [] (by simp)).c5
    have p6 := (L9.out.cat bc cA [] (by simp)).c6
    have p7 := (L9.out.cat bc cA [] (by simp)).c7
    have p8 := (L9.out.cat bc cA [] (by simp)).c8
    have p9 := (L9.out.cat bc cA [] (by simp)).c9
    have pl := (L9.out.cat bc cA [] (by simp)).lt
    dsimp only [sM, Ls.noSl] at q0 q1 q2 q3 q4 q5
    dsimp only [cA] at p0 p1 p2 p3 p4 p5 p6 p7 p8 p9
    go_wp2_with fail
    refine (white_any (sM m mp mc) dM cA [] 24 w9 (L9.out.hp b (sM m mp mc) dM (by simp)) (L9.out.wr bc cA [] (by simp)) (HZ.out.over L9.out.bel hz0) (fine_M m mp mc)).mono ?_
    rw [show isC (sM m mp mc) dM cA.mj cA.ep 24 1 = true from isA m mp mc]
    rintro e w10 ⟨rfl, hb10⟩
    have L10 := Lib.hid (L9.out.next hb10)
    clear hb10 L9
    clear q0 q1 q2 q3 q4 q5 ql
    clear p0 p1 p2 p3 p4 p5 p6 p7 p8 p9 pl
    have q0 := (L10.out.at b6 t dS (by simp)).c0
    have q1 := (L10.out.at b6 t dS (by simp)).c1
    have q2 := (L10.out.at b6 t dS (by simp)).c2
    have q3 := (L10.out.at b6 t dS (by simp)).c3
    have q4 := (L10.out.at b6 t dS (by simp)).c4
    have q5 := (L10.out.at b6 t dS (by simp)).c5
    have ql := (L10.out.at b6 t dS (by simp)).lt
    have p0 := (L10.out.cat (b6 + 1) (kw cA v false) [24] (by simp)).c0
    have p1 := (L10.out.cat (b6 + 1) (kw cA v false) [24] (by simp)).c1
    have p2 := (L10.out.cat (b6 + 1) (kw cA v false) [24] (by simp)).c2
    have p3 := (L10.out.cat (b6 + 1) (kw cA v false) [24] (by simp)).c3
    have p4 := (L10.out.cat (b6 + 1) (kw cA v false) [24] (by simp)).c4
    have p5 := (L10.out.cat (b6 + 1) (kw cA v false) [24] (by simp)).c5
    have p6 := (L10.out.cat (b6 + 1) (kw cA v false) [24] (by simp)).c6
    have p7 := (L10.out.cat (b6 + 1) (kw cA v false) [24] (by simp)).c7
    have p8 := (L10.out.cat (b6 + 1) (kw cA v false) [24] (by simp)).c8
    have p9 := (L10.out.cat (b6 + 1) (kw cA v false) [24] (by simp)).c9
    have pl := (L10.out.cat (b6 + 1) (kw cA v false) [24] (by simp)).lt
    dsimp only [kw] at p0 p1 p2 p3 p4 p5 p6 p7 p8 p9
    go_wp2_with fail
    refine (white_any t dS (kw cA v false) [24] 24 w10 (L10.out.hp b6 t dS (by simp)) (L10.out.wr (b6 + 1) (kw cA v false) [24] (by simp)) (HZ.out.over L10.out.bel hz0) (fineA TL.out)).mono ?_
    rw [show isC t dS (kw cA v false).mj (kw cA v false).ep 24 1 = false from whiteA TL.out]
    rintro e w11 ⟨rfl, hb11⟩
    have L11 := Lib.hid (L10.out.next hb11)
    clear hb11 L10
    clear q0 q1 q2 q3 q4 q5 ql
    clear p0 p1 p2 p3 p4 p5 p6 p7 p8 p9 pl
    go_wp2
    go_ret
    exact ⟨rfl, L11.out.bel⟩
end Go.Proofs.YtdmclfolooiccaaDoor.Sh
end
section
namespace Go.Proofs.YtdmclfolooiccaaDoor
open Go.ChangeShapes Go.WideShapes Go.ChangeAt Go.RowKit Go.Deep
set_option maxRecDepth 100000

theorem own : ownKnob Tryd.prog.godebug = none := by kernel_rfl
theorem laidOut : laidOutB Tryd.prog = true := by kernel_rfl
def laidSizes : List (String × DataW Unit) := [("ragpicker/class.sizes", Rows.laid_ragpicker_class_sizes)]
theorem gSizes : Tryd.prog.globalNamed "ragpicker/class.sizes" = some 0 := by kernel_rfl
theorem tSizes : (Tryd.prog.globals[0]?).map (·.type) = some 108 := by kernel_rfl
theorem cInt : Tryd.prog.cellsOf 3 = 1 := by kernel_rfl
theorem cSizes : Tryd.prog.cellsOf 108 = 3 := by kernel_rfl
theorem of_laid {W : World} (h : laidMetH Tryd.prog laidSizes W) : Cl.Sz W := by
  rw [MakeChecks.laidMetH_plain _ _ _ (by kernel_rfl)] at h
  have hT : Lib.TabIs Tryd.prog W "ragpicker/class.sizes" .i64 [2, 4, 8] := Lib.tabIs_of_head gSizes tSizes Tryd.underlying108 Tryd.underlying3 cInt cSizes h
  exact ⟨hT.cell gSizes 0 (by decide), hT.cell gSizes 1 (by decide), hT.cell gSizes 2 (by decide)⟩
theorem door_met (os : Os) (args : Array Value) : laidMetH Tryd.prog laidSizes ((World.doorLaid Tryd.prog 400 os).forCall (fun _ _ => 0) ⟨#[], args, []⟩).memory :=
  laidMetH_of_parts3 (fuel := 8) (laidMet_of_run' 8 (by kernel_rfl) (by kernel_rfl)) (by kernel_rfl) (by kernel_rfl)

/-- How much a reading holds. -/
theorem bulk_one {H : Type} (d : DataW H) : 1 ≤ Rows.uptoBulk d := by
  cases d <;> first | (simp only [Rows.uptoBulk]; omega) | (rename_i l; cases l <;> simp [Rows.uptoBulk])
theorem bulk_long {H : Type} : ∀ l : List (DataW H), l.length ≤ Rows.uptoBulkAll l
  | [] => by simp [Rows.uptoBulkAll]
  | x :: r => by
    have h1 := bulk_one x
    have h2 := bulk_long r
    simp only [Rows.uptoBulkAll, List.length_cons]
    omega
theorem bulk_slice {H : Type} (l r : List (DataW H)) : l.length ≤ Rows.uptoBulk (.slice l r) := by
  have := bulk_long l
  simp only [Rows.uptoBulk]
  omega
theorem wf_bounds {n : Int} (h : (Lit.int .i64 n).wf = true) : -9223372036854775808 ≤ n ∧ n ≤ 9223372036854775807 := by
  simpa [Lit.wf, IntKind.min, IntKind.max, IntKind.signed, IntKind.bits] using h
def Fit64 (zs : List Int) : Prop := ∀ i, -9223372036854775808 ≤ zs.getD i 0 ∧ zs.getD i 0 ≤ 9223372036854775807
/-- A slice of numbers that comes in. -/
theorem ints_in {H : Type} {enc : TypeId × Value → H} {w : World} {base : Nat} {spare : Nat → Bool} {held : Bool} {fuel : Nat} {cs : List Value} {x : DataW H × List MemPlace}
    (h : DataW.trod enc Tryd.prog w base spare held fuel 22 cs = some x) :
    ∃ (s : Ls.Sl) (zs : List Int), cs = [.slice s.a s.n s.c] ∧ (Row w w.heap.size s.a s.n zs ∧ s.n ≤ s.c ∧ s.c ≤ maxLen) ∧ s.n ≤ Rows.uptoBulk x.1 ∧ Fit64 zs := by
  rcases open_ints Tryd.underlying22 Tryd.underlying3 (by kernel_rfl) h with ⟨rfl, rfl⟩ | ⟨y, len, cap, zs, rfl, _, hl, hm, hz, rfl, hcell, hwz⟩
  · exact ⟨⟨none, 0, 0⟩, [], rfl, ⟨Row.none_ _ _, Nat.le_refl _, by show (0 : Nat) ≤ maxLen; unfold maxLen; omega⟩, Nat.zero_le _, fun i => by simp⟩
  · have hz' : len ≤ zs.length := by rw [hz]; split <;> omega
    refine ⟨⟨some y, len, cap⟩, zs.take len, rfl, ⟨⟨by simp; omega, fun hn => ?_⟩, hl, hm⟩, ?_, fun i => ?_⟩
    · have hn' : 0 < len := hn
      obtain ⟨b, off, spot⟩ := y
      have h0 := hcell 0 (by omega)
      have hs : spot = none := by simpa [Addr.add] using World.cell?_spot h0
      subst hs
      refine ⟨b, off, rfl, ?_, fun i hi => ?_⟩
      · have := World.block_lt_of_cell? w _ h0
        simpa [Addr.add] using this
      · have hi' : i < len := hi
        have := hcell i (by omega)
        rw [Addr.add_lit] at this
        rw [this]
        simp [List.getD, hi']
    · have := bulk_slice (H := H) (lits .i64 (zs.take len)) (lits .i64 (zs.drop len))
      have e : (lits (H := H) .i64 (zs.take len)).length = len := by simp [lits]; omega
      show len ≤ Rows.uptoBulk (DataW.slice (lits .i64 (zs.take len)) (lits .i64 (zs.drop len)))
      rw [e] at this
      exact this
    · by_cases hi : i < len
      · have hi2 : i < zs.length := by omega
        have h1 := hwz (zs.getD i 0) (getD_mem hi2)
        rw [show (zs.take len).getD i 0 = zs.getD i 0 by simp [List.getD, hi]]
        exact wf_bounds h1
      · rw [show (zs.take len).getD i 0 = 0 by simp [List.getD, List.getElem?_eq_none (show (zs.take len).length ≤ i by simp; omega)]]
        omega
theorem bools_in {H : Type} {enc : TypeId × Value → H} {w : World} {base : Nat} {spare : Nat → Bool} {held : Bool} {fuel : Nat} {cs : List Value} {x : DataW H × List MemPlace}
    (h : DataW.trod enc Tryd.prog w base spare held fuel 26 cs = some x) : ∃ (s : Ls.Sl) (f : Nat → Bool), cs = [.slice s.a s.n s.c] ∧ BRow w w.heap.size s.a s.n f := by
  rcases open_slice Tryd.underlying26 h with ⟨hcs, _⟩ | ⟨y, len, cap, m, k, D, Pl, hcs, _, hl, hm, hmm, _, hi⟩
  · exact ⟨⟨none, 0, 0⟩, fun _ => false, hcs, fun h0 => absurd h0 (by simp)⟩
  · have hm' : len ≤ m := by rw [hmm]; split <;> omega
    have each : ∀ i, i < len → ∃ v : Bool, w.cell? ((y.add (i * 1)).add 0) = some (.bool v) := by
      intro i hlt
      obtain ⟨cs', h1, h2⟩ := hi i (by omega)
      have ce : Tryd.prog.cellsOf 4 = 1 := by kernel_rfl
      rw [ce] at h1
      obtain ⟨_, hlen, hcell⟩ := World.cells?_some h1
      match cs', hlen with
      | [c0], _ =>
        obtain ⟨v, e, _⟩ := DataW.trod_bool Tryd.underlying4 h2
        simp only [List.cons.injEq, and_true] at e
        subst e
        exact ⟨v, by simpa using hcell 0 (by decide)⟩
    obtain ⟨q, hq⟩ := choose_lt each
    refine ⟨⟨some y, len, cap⟩, q, hcs, fun hn => ?_⟩
    have hn' : 0 < len := hn
    obtain ⟨b, off, spot⟩ := y
    have h0 := hq 0 hn'
    have hs : spot = none := by simpa [Addr.add] using World.cell?_spot h0
    subst hs
    refine ⟨b, off, rfl, ?_, fun i hlt => ?_⟩
    · have := World.block_lt_of_cell? w _ h0
      simpa [Addr.add] using this
    · have := hq i hlt
      rw [Addr.add_lit, Addr.add_lit, Nat.mul_one] at this
      exact this
/-- Three of them. -/
def tri {α : Type} (a b c : α) : Nat → α
  | 0 => a
  | 1 => b
  | _ => c
theorem lists_in {H : Type} {enc : TypeId × Value → H} {w : World} {base : Nat} {spare : Nat → Bool} {held : Bool} {fuel : Nat} {c0 c1 c2 : Value} {x : DataW H × List MemPlace}
    (h : DataW.trod enc Tryd.prog w base spare held fuel 25 [c0, c1, c2] = some x) :
    ∃ (u : Nat → Ls.Sl) (f : Nat → List Int), [c0, c1, c2] = [.slice (u 0).a (u 0).n (u 0).c, .slice (u 1).a (u 1).n (u 1).c, .slice (u 2).a (u 2).n (u 2).c] ∧ Ls.L3 w w.heap.size u f ∧ (u 0).n + (u 1).n + (u 2).n ≤ Rows.uptoBulk x.1 := by
  obtain ⟨y0, y1, y2, n, rfl, h0, h1, h2⟩ := trod_array3 Tryd.underlying25 (by kernel_rfl) h
  obtain ⟨s0, z0, e0, r0, b0, _⟩ := ints_in h0
  obtain ⟨s1, z1, e1, r1, b1, _⟩ := ints_in h1
  obtain ⟨s2, z2, e2, r2, b2, _⟩ := ints_in h2
  simp only [List.cons.injEq, and_true] at e0 e1 e2
  refine ⟨tri s0 s1 s2, tri z0 z1 z2, by rw [e0, e1, e2]; rfl, fun j hj => ?_, ?_⟩
  · match j, hj with
    | 0, _ => exact r0
    | 1, _ => exact r1
    | 2, _ => exact r2
  · simp only [Rows.uptoBulk, Rows.uptoBulkAll, tri]
    omega
end Go.Proofs.YtdmclfolooiccaaDoor
end
section
namespace Go.Proofs.YtdmclfolooiccaaDoor
open Go.ChangeShapes Go.WideShapes Go.ChangeAt Go.RowKit Go.Deep
set_option maxRecDepth 100000

end Go.Proofs.YtdmclfolooiccaaDoor
end
section
namespace Go.Proofs.YtdmclfolooiccaaDoor
open Go.ChangeShapes Go.WideShapes Go.ChangeAt Go.RowKit Go.Deep

section
variable {H : Type} {enc : TypeId × Value → H} {P : Program} {w : World} {base : Nat} {spare : Nat → Bool} {held : Bool}

end
end Go.Proofs.YtdmclfolooiccaaDoor
end
section
namespace Go.Proofs.YtdmclfolooiccaaDoor
open Go.ChangeShapes Go.WideShapes Go.ChangeAt Go.RowKit Go.Deep
set_option maxRecDepth 100000

theorem pin_cap {H : Type} {enc : TypeId × Value → H} {w : World} {base : Nat} {spare : Nat → Bool} {held : Bool} {fuel : Nat} {cs : List Value} {x : DataW H × List MemPlace}
    (h : DataW.trod enc Tryd.prog w base spare held fuel 23 cs = some x) : ∃ (s : Ls.Sl) (f : Nat → Int × Int), cs = [.slice s.a s.n s.c] ∧ Cl.PRow w w.heap.size s.a s.n f ∧ s.n ≤ s.c := by
  rcases open_slice_pairs Tryd.underlying23 Tryd.underlying50 (by kernel_rfl) rfl rfl (by kernel_rfl) (by kernel_rfl) h with ⟨hcs, _⟩ | ⟨x, l, c, m, n, V0, V1, D0, D1, P0, P1, hcs, _, hl, hm, hmm, _, hi⟩
  · exact ⟨⟨none, 0, 0⟩, fun _ => (0, 0), hcs, Cl.PRow.empty _ _ _ _, Nat.le_refl _⟩
  · refine ⟨⟨some x, l, c⟩, fun i => (intOf (V0 i), intOf (V1 i)), hcs, fun hn => ?_, hl⟩
    have hn' : 0 < l := hn
    have hm' : l ≤ m := by rw [hmm]; split <;> omega
    obtain ⟨b, off, spot⟩ := x
    have h0 := (hi 0 (by omega)).1
    have hs : spot = none := by simpa [Addr.add] using World.cell?_spot h0
    subst hs
    refine ⟨b, off, rfl, ?_, fun i hlt => ?_⟩
    · have := World.block_lt_of_cell? w _ h0
      simpa [Addr.add] using this
    · have hlt' : i < l := hlt
      obtain ⟨g0, g1, t0, t1⟩ := hi i (by omega)
      rw [Addr.add_lit] at g0 g1
      rw [← Nat.add_assoc] at g1
      obtain ⟨z0, e0, _⟩ := DataW.trod_int Tryd.underlying3 t0
      obtain ⟨z1, e1, _⟩ := DataW.trod_int Tryd.underlying3 t1
      simp only [List.cons.injEq, and_true] at e0 e1
      refine ⟨?_, ?_⟩
      · show _ = some (Value.int .i64 (intOf (V0 i)))
        rw [g0, e0]
        rfl
      · show _ = some (Value.int .i64 (intOf (V1 i)))
        rw [g1, e1]
        rfl
theorem heap_of8 {H : Type} {enc : TypeId × Value → H} {w : World} {base b0 : Nat} {spare : Nat → Bool} {held : Bool} {v : Value} {d : DataW H} {p : List MemPlace} {r : Reach}
    (hv : Value.okWide Tryd.prog w r b0 28 v) (h : DataW.Trod enc Tryd.prog w base spare held 28 v d p) :
    ∃ (s : Hs) (e : Hd_), v = (.agg #[.slice s.w.a s.w.n s.w.c, .slice s.p.a s.p.n s.p.c, .slice (s.u 0).a (s.u 0).n (s.u 0).c, .slice (s.u 1).a (s.u 1).n (s.u 1).c, .slice (s.u 2).a (s.u 2).n (s.u 2).c, .slice s.c.a s.c.n s.c.c]) ∧ Hp w w.heap.size s e ∧ Fit64 e.ws ∧ s.p.n ≤ s.p.c := by
  obtain ⟨⟨l⟩, rfl, hsz⟩ := okWide_struct Tryd.underlying28 hv
  obtain ⟨fuel, hf⟩ := h
  obtain ⟨xs, k, _, hx, hl, hlen, hg⟩ := DataW.trod_struct Tryd.underlying28 hf
  have hl6 : l.length = 6 := hsz.trans (by kernel_rfl)
  match l, hl6, xs, hlen with
  | [c0, c1, c2, c3, c4, c5], _, [y0, y1, y2, y3], _ =>
    have e22 : Tryd.prog.cellsOf 22 = 1 := by kernel_rfl
    have e23 : Tryd.prog.cellsOf 23 = 1 := by kernel_rfl
    have e25 : Tryd.prog.cellsOf 25 = 3 := by kernel_rfl
    have e26 : Tryd.prog.cellsOf 26 = 1 := by kernel_rfl
    have g0 : DataW.trod enc Tryd.prog w base spare held k 22 [c0] = some y0 := by have := hg 0 _ rfl; simpa [e22, Value.cells] using this
    have g1 : DataW.trod enc Tryd.prog w base spare held k 23 [c1] = some y1 := by have := hg 1 _ rfl; simpa [e23, Value.cells] using this
    have g2 : DataW.trod enc Tryd.prog w base spare held k 25 [c2, c3, c4] = some y2 := by have := hg 2 _ rfl; simpa [e25, Value.cells] using this
    have g3 : DataW.trod enc Tryd.prog w base spare held k 26 [c5] = some y3 := by have := hg 3 _ rfl; simpa [e26, Value.cells] using this
    obtain ⟨s0, zs, h0, r0, _, f0⟩ := ints_in g0
    obtain ⟨s1, f1, h1, r1, c1'⟩ := pin_cap g1
    obtain ⟨u, F, h2, r2, _⟩ := lists_in g2
    obtain ⟨s3, f3, h3, r3⟩ := bools_in g3
    simp only [List.cons.injEq, and_true] at h0 h1 h2 h3
    obtain ⟨rfl, rfl, rfl⟩ := h2
    subst h0 h1 h3
    refine ⟨⟨s0, s1, u, s3⟩, ⟨zs, f1, F, f3⟩, rfl, ⟨r0.1, r1, r2, r3⟩, f0, c1'⟩
end Go.Proofs.YtdmclfolooiccaaDoor
end
section
namespace Go.Proofs.YtdmclfolooiccaaDoor.Sh
open Go.Proofs.YtdmclfolooiccaaDoor
open Go.ChangeShapes Go.WideShapes Go.ChangeAt Go.RowKit Go.Deep
set_option maxRecDepth 100000

theorem col_of {H : Type} {enc : TypeId × Value → H} {w : World} {base b0 : Nat} {spare : Nat → Bool} {held : Bool} {v : Value} {d : DataW H} {p : List MemPlace} {r : Reach}
    (hv : Value.okWide Tryd.prog w r b0 30 v) (h : DataW.Trod enc Tryd.prog w base spare held 30 v d p) :
    ∃ (k : Ks) (xs : List Int), v = (.agg #[.int .i64 k.ph, .int .i64 k.ep, .bool k.mj, .slice k.wk.a k.wk.n k.wk.c, .bool k.ov, .int .i64 k.pa, .int .i64 k.pf, .int .i64 k.ps, .int .i64 k.pc, .bool k.me]) ∧ WRow w w.heap.size k xs ∧ k.wk.n ≤ k.wk.c ∧ k.wk.c ≤ maxLen ∧ (Lit.int .i64 k.ep).wf = true := by
  obtain ⟨⟨l⟩, rfl, hsz⟩ := okWide_struct Tryd.underlying30 hv
  obtain ⟨fuel, hf⟩ := h
  obtain ⟨xs, k, _, hx, hl, hlen, hg⟩ := DataW.trod_struct Tryd.underlying30 hf
  have hl10 : l.length = 10 := hsz.trans (by kernel_rfl)
  match l, hl10, xs, hlen with
  | [c0, c1, c2, c3, c4, c5, c6, c7, c8, c9], _, [y0, y1, y2, y3, y4, y5, y6, y7, y8, y9], _ =>
    have e1 : Tryd.prog.cellsOf 3 = 1 := by kernel_rfl
    have e2 : Tryd.prog.cellsOf 4 = 1 := by kernel_rfl
    have e3 : Tryd.prog.cellsOf 22 = 1 := by kernel_rfl
    have g0 : DataW.trod enc Tryd.prog w base spare held k 3 [c0] = some y0 := by have := hg 0 _ rfl; simpa [e1, Value.cells] using this
    have g1 : DataW.trod enc Tryd.prog w base spare held k 3 [c1] = some y1 := by have := hg 1 _ rfl; simpa [e1, Value.cells] using this
    have g2 : DataW.trod enc Tryd.prog w base spare held k 4 [c2] = some y2 := by have := hg 2 _ rfl; simpa [e2, Value.cells] using this
    have g3 : DataW.trod enc Tryd.prog w base spare held k 22 [c3] = some y3 := by have := hg 3 _ rfl; simpa [e3, Value.cells] using this
    have g4 : DataW.trod enc Tryd.prog w base spare held k 4 [c4] = some y4 := by have := hg 4 _ rfl; simpa [e2, Value.cells] using this
    have g5 : DataW.trod enc Tryd.prog w base spare held k 3 [c5] = some y5 := by have := hg 5 _ rfl; simpa [e1, Value.cells] using this
    have g6 : DataW.trod enc Tryd.prog w base spare held k 3 [c6] = some y6 := by have := hg 6 _ rfl; simpa [e1, Value.cells] using this
    have g7 : DataW.trod enc Tryd.prog w base spare held k 3 [c7] = some y7 := by have := hg 7 _ rfl; simpa [e1, Value.cells] using this
    have g8 : DataW.trod enc Tryd.prog w base spare held k 3 [c8] = some y8 := by have := hg 8 _ rfl; simpa [e1, Value.cells] using this
    have g9 : DataW.trod enc Tryd.prog w base spare held k 4 [c9] = some y9 := by have := hg 9 _ rfl; simpa [e2, Value.cells] using this
    obtain ⟨n0, h0, _, _⟩ := DataW.trod_int Tryd.underlying3 g0
    obtain ⟨n1, h1, _, w1⟩ := DataW.trod_int Tryd.underlying3 g1
    obtain ⟨n2, h2, _⟩ := DataW.trod_bool Tryd.underlying4 g2
    obtain ⟨s3, zs, h3, r3, _, _⟩ := ints_in g3
    obtain ⟨n4, h4, _⟩ := DataW.trod_bool Tryd.underlying4 g4
    obtain ⟨n5, h5, _, _⟩ := DataW.trod_int Tryd.underlying3 g5
    obtain ⟨n6, h6, _, _⟩ := DataW.trod_int Tryd.underlying3 g6
    obtain ⟨n7, h7, _, _⟩ := DataW.trod_int Tryd.underlying3 g7
    obtain ⟨n8, h8, _, _⟩ := DataW.trod_int Tryd.underlying3 g8
    obtain ⟨n9, h9, _⟩ := DataW.trod_bool Tryd.underlying4 g9
    simp only [List.cons.injEq, and_true] at h0 h1 h2 h3 h4 h5 h6 h7 h8 h9
    subst h0 h1 h2 h3 h4 h5 h6 h7 h8 h9
    exact ⟨⟨n0, n1, n2, s3, n4, n5, n6, n7, n8, n9⟩, zs, rfl, r3.1, r3.2.1, r3.2.2, w1⟩
end Go.Proofs.YtdmclfolooiccaaDoor.Sh
end
section
namespace Go.Proofs.YtdmclfolooiccaaDoor.Sh
open Go.Proofs.YtdmclfolooiccaaDoor
set_option maxRecDepth 100000

/-- Behind the objects of L were shaded, one behind the other. -/
structure Run (s t : Hs) (d d' : Hd_) (mj : Bool) (ep : Int) (L : List Int) : Prop where
  kin : Kin s t d d'
  col : ∀ y q, isC t d' mj ep y q = if isC s d mj ep y 1 = true ∧ y ∈ L then decide (q = 2) else isC s d mj ep y q
/-- How many of them are white. -/
def nW (s : Hs) (d : Hd_) (mj : Bool) (ep : Int) (L : List Int) : Nat := (L.filter fun y => isC s d mj ep y 1).length
section
variable {s t u : Hs} {d d' : Hd_} {mj : Bool} {ep a : Int} {L : List Int}
theorem Run.nil (s : Hs) (d : Hd_) (mj : Bool) (ep : Int) : Run s s d d mj ep [] := ⟨Kin.refl s d, fun y q => by rw [if_neg (fun h => by cases h.2)]⟩
theorem Run.white (h : Run s t d d' mj ep L) (ha : ¬ a ∈ L) : isC t d' mj ep a 1 = isC s d mj ep a 1 := by
  rw [h.col, if_neg (fun hh => ha hh.2)]
theorem Run.step (h : Run s t d d' mj ep L) (hl : Lens t u) (hlen : d'.ws.length = t.w.n) : Run s u d (shD t d' mj ep a) mj ep (L ++ [a]) := by
  refine ⟨h.kin.trans (kin_sh hl hlen mj ep a), fun y q => ?_⟩
  rw [sh_col hl hlen]
  by_cases hy : y = a
  · subst hy
    by_cases hw : isC s d mj ep y 1 = true
    · rw [if_pos (show isC s d mj ep y 1 = true ∧ y ∈ L ++ [y] from ⟨hw, by simp⟩)]
      by_cases hm : y ∈ L
      · rw [if_neg (fun hh => by rw [h.col, if_pos ⟨hw, hm⟩] at hh; exact absurd hh.1 (by decide)), h.col, if_pos ⟨hw, hm⟩]
      · rw [if_pos ⟨(h.white hm).trans hw, rfl⟩]
    · rw [if_neg (fun hh => by rw [h.col, if_neg (fun hh => hw hh.1)] at hh; exact hw hh.1), h.col, if_neg (fun hh => hw hh.1), if_neg (fun hh => hw hh.1)]
  · rw [if_neg (fun hh => hy hh.2), h.col]
    have hm : y ∈ L ++ [a] ↔ y ∈ L := by simp [hy]
    simp only [hm]
theorem nW_next (s : Hs) (d : Hd_) (mj : Bool) (ep : Int) (L : List Int) (a : Int) : nW s d mj ep (L ++ [a]) = nW s d mj ep L + (if isC s d mj ep a 1 = true then 1 else 0) := by
  unfold nW
  rw [List.filter_append, List.length_append]
  by_cases h : isC s d mj ep a 1 = true <;> simp [h]
theorem nW_le (s : Hs) (d : Hd_) (mj : Bool) (ep : Int) (L : List Int) : nW s d mj ep L ≤ L.length := List.length_filter_le _ _
theorem nW_rev (s : Hs) (d : Hd_) (mj : Bool) (ep : Int) (L : List Int) : nW s d mj ep L.reverse = nW s d mj ep L := by
  unfold nW
  rw [List.filter_reverse, List.length_reverse]
end
/-- The work list, and whether it has no more room, behind m were put to it. -/
def Wk (n0 : Nat) (o0 : Bool) (m : Nat) (xs : List Int) (ov : Bool) : Prop := xs.length = (if n0 + m ≤ 4 then n0 + m else max n0 4) ∧ ov = (o0 || decide (0 < m ∧ 4 < n0 + m))
theorem wk_nil (xs : List Int) (ov : Bool) : Wk xs.length ov 0 xs ov := ⟨by split <;> omega, by simp⟩
theorem wk_len {n0 m : Nat} {o0 ov : Bool} {xs : List Int} (h : Wk n0 o0 m xs ov) : xs.length ≤ max n0 4 := by
  have h1 := h.1
  split at h1 <;> omega
theorem wk_step {n0 m : Nat} {o0 ov : Bool} {xs : List Int} (h : Wk n0 o0 m xs ov) (c : Bool) (a : Int) : Wk n0 o0 (m + if c = true then 1 else 0) (shX c xs a) (shO c xs ov) := by
  cases c
  · refine ⟨?_, ?_⟩
    · rw [show shX false xs a = xs from if_neg (by simp)]
      exact h.1
    · rw [show shO false xs ov = ov by simp [shO]]
      exact h.2
  · obtain ⟨h1, h2⟩ := h
    rw [if_pos rfl]
    by_cases h4 : xs.length < 4
    · rw [show shX true xs a = xs ++ [a] from if_pos ⟨rfl, h4⟩, show shO true xs ov = ov by unfold shO; rw [decide_eq_false (by omega)]; simp]
      have h5 : n0 + m < 4 := by split at h1 <;> omega
      refine ⟨?_, ?_⟩
      · rw [List.length_append, List.length_singleton, if_pos (by omega), h1, if_pos (by omega)]
        omega
      · rw [h2, decide_eq_false (by omega), decide_eq_false (by omega)]
    · rw [show shX true xs a = xs from if_neg (by omega), show shO true xs ov = true by unfold shO; rw [decide_eq_true (by omega)]; simp]
      have h5 : 4 ≤ n0 + m := by split at h1 <;> omega
      refine ⟨?_, ?_⟩
      · rw [h1]
        split <;> split <;> omega
      · rw [decide_eq_true (by omega)]
        simp
section
variable {s t : Hs} {d d' : Hd_} {mj : Bool} {ep a : Int} {L : List Int}
/-- White or grey. -/
def wgL (s : Hs) (d : Hd_) (mj : Bool) (ep : Int) : List Int := (usedL s d).filter fun y => isC s d mj ep y 1 || isC s d mj ep y 2
theorem not_both (y : Int) : ¬ (isC s d mj ep y 1 = true ∧ isC s d mj ep y 2 = true) := fun h => by
  have h1 := (isC_iff.1 h.1).2.2
  have h2 := (isC_iff.1 h.2).2.2
  omega
theorem filter_both (p q : Int → Bool) (xs : List Int) (h : ∀ y, ¬ (p y = true ∧ q y = true)) : (xs.filter fun y => p y || q y).length = (xs.filter q).length + (xs.filter p).length := by
  induction xs with
  | nil => rfl
  | cons x xs ih =>
    have hx := h x
    cases hp : p x <;> cases hq : q x
    · simp [hp, hq, ih]
    · simp [hp, hq, ih]; omega
    · simp [hp, hq, ih]; omega
    · exact absurd ⟨hp, hq⟩ hx
theorem wg_len (s : Hs) (d : Hd_) (mj : Bool) (ep : Int) : (wgL s d mj ep).length = (greyL s d mj ep).length + nW s d mj ep (usedL s d) :=
  filter_both _ _ _ not_both
/-- Behind all were shaded. -/
theorem Run.grey (h : Run s t d d' mj ep L) (hL : ∀ y, y ∈ usedL s d → y ∈ L) : greyL t d' mj ep = wgL s d mj ep := by
  unfold greyL wgL
  rw [h.kin.used]
  refine List.filter_congr fun y hy => ?_
  rw [h.col]
  by_cases hw : isC s d mj ep y 1 = true
  · rw [if_pos ⟨hw, hL y hy⟩, hw]
    rfl
  · rw [if_neg (fun hh => hw hh.1), show isC s d mj ep y 1 = false by simpa using hw]
    rfl
theorem Run.none (h : Run s t d d' mj ep L) (hL : ∀ y, y ∈ usedL s d → y ∈ L) {y : Int} (hy : y ∈ usedL s d) : isC t d' mj ep y 1 = false := by
  rw [h.col]
  by_cases hw : isC s d mj ep y 1 = true
  · rw [if_pos ⟨hw, hL y hy⟩]
    decide
  · rw [if_neg (fun hh => hw hh.1)]
    simpa using hw
end
theorem take_cat {xs : List Int} {q : Nat} (h : q < xs.length) : xs.take (q + 1) = xs.take q ++ [xs.getD q 0] := by
  have g : xs.getD q 0 = xs[q] := by simp [List.getD, h]
  rw [g, List.take_succ_eq_append_getElem h]
theorem take_new {xs : List Int} {q : Nat} (hn : xs.Nodup) (h : q < xs.length) : ¬ xs.getD q 0 ∈ xs.take q := fun hm => by
  have g : xs.getD q 0 = xs[q] := by simp [List.getD, h]
  rw [g] at hm
  obtain ⟨i, hi, e⟩ := List.mem_iff_getElem.1 hm
  rw [List.getElem_take] at e
  rw [List.length_take] at hi
  have hp := List.pairwise_iff_getElem.1 hn i q (by omega) h (by omega)
  exact hp e
theorem rev_at {xs : List Int} {q : Nat} (h : q < xs.length) : xs.reverse.getD q 0 = xs.getD (xs.length - 1 - q) 0 := by
  have h2 : xs.length - 1 - q < xs.length := by omega
  simp [List.getD, h, h2]
end Go.Proofs.YtdmclfolooiccaaDoor.Sh
end
section
namespace Go.Proofs.YtdmclfolooiccaaDoor
open Go.RowKit

section
variable {P : Program} {ops : Array Oper} {Q : Exit → Act → World → Prop} {md : Region.Mode}
theorem wpAny_inv (Inv : (Nat → Bool) → Act → World → Prop) (hdag : ∀ (i : Nat) (o : Oper), ops[i]? = some o → ∀ e ∈ o.after, Region.binds md e = true → e.on < i)
    (hstep : ∀ (i : Nat) (o : Oper) (l : Nat → Bool) (a : Act) (w : World), ops[i]? = some o → Inv l a w → l i = false → (∀ e ∈ o.after, Region.binds md e = true → l e.on = true) → ∀ K : Act → World → Prop, (∀ a' w', Inv (Ls.upd l i true) a' w' → K a' w') → wpOp P ops Q i K a w)
    (hdone : ∀ (l : Nat → Bool) (a : Act) (w : World), Inv l a w → (∀ i, i < ops.size → l i = true) → Q .normal a w) :
    ∀ (fuel : Nat) (listed : Array Bool) (l : Nat → Bool) (a : Act) (w : World), listed.size = ops.size → (∀ j, j < ops.size → listed.getD j true = l j) → Ls.todo ops.size l ≤ fuel → Inv l a w → wpAny P md ops Q fuel listed a w := by
  intro fuel
  induction fuel with
  | zero =>
    intro listed l a w hs hl ht hi
    have hall := Ls.todo_none ops.size (Nat.le_zero.1 ht)
    refine ⟨List.eq_nil_iff_forall_not_mem.2 fun j hj => ?_, hdone l a w hi hall⟩
    obtain ⟨h1, o, ho, _⟩ := mem_ready.1 hj
    have hlt : j < ops.size := (Array.getElem?_eq_some_iff.1 ho).1
    rw [hl j hlt, hall j hlt] at h1
    cases h1
  | succ fuel ih =>
    intro listed l a w hs hl ht hi
    refine ⟨fun hr => hdone l a w hi ?_, fun i hri => ?_⟩
    · intro i
      induction i using Nat.strongRecOn with
      | ind i ihi =>
        intro hlt
        cases hli : l i with
        | true => rfl
        | false =>
          have ho : ops[i]? = some ops[i] := Array.getElem?_eq_getElem hlt
          have : i ∈ Region.ready md ops listed := mem_ready.2 ⟨by rw [hl i hlt]; exact hli, _, ho, fun e he hbd => by
            have hlo := hdag i _ ho e he hbd
            have h1 := ihi e.on hlo (by omega)
            rw [← hl e.on (by omega)] at h1
            rw [Array.getD_eq_getD_getElem?] at h1 ⊢
            rw [Array.getElem?_eq_getElem (by omega)] at h1 ⊢
            exact h1⟩
          rw [hr] at this
          cases this
    · obtain ⟨h1, o, ho, ha⟩ := mem_ready.1 hri
      have hlt : i < ops.size := (Array.getElem?_eq_some_iff.1 ho).1
      rw [hl i hlt] at h1
      refine hstep i o l a w ho hi h1 (fun e he hb => ?_) _ (fun a' w' hi' => ih _ (Ls.upd l i true) a' w' (by simpa using hs) (fun j hj => ?_) ?_ hi')
      · have h2 := ha e he hb
        have hlo := hdag i o ho e he hb
        rw [← hl e.on (by omega)]
        rw [Array.getD_eq_getD_getElem?] at h2 ⊢
        rw [Array.getElem?_eq_getElem (by omega)] at h2 ⊢
        exact h2
      · by_cases e : j = i
        · subst e
          rw [Ls.upd_same, Array.getD_eq_getD_getElem?, Array.getElem?_setIfInBounds_self_of_lt (by omega)]
          rfl
        · rw [Ls.upd_other _ _ e, Array.getD_eq_getD_getElem?, Array.getElem?_setIfInBounds_ne (fun h => e h.symm), ← Array.getD_eq_getD_getElem?]
          exact hl j hj
      · have := Ls.todo_upd h1 ops.size hlt
        omega
theorem wp_region_from {id : Nat} {a : Act} {w : World} (hm : P.follows .mixedOrders = true) (Inv : Act → (Nat → Bool) → Act → World → Prop) (hdag : ∀ (i : Nat) (o : Oper), ops[i]? = some o → ∀ e ∈ o.after, Region.binds .any e = true → e.on < i)
    (hstart : Inv a (fun _ => false) a w.drew)
    (hstep : ∀ (i : Nat) (o : Oper) (l : Nat → Bool) (a' : Act) (w : World), ops[i]? = some o → Inv a l a' w → l i = false → (∀ e ∈ o.after, Region.binds .any e = true → l e.on = true) → ∀ K : Act → World → Prop, (∀ a'' w', Inv a (Ls.upd l i true) a'' w' → K a'' w') → wpOp P ops Q i K a' w)
    (hdone : ∀ (l : Nat → Bool) (a' : Act) (w : World), Inv a l a' w → (∀ i, i < ops.size → l i = true) → Q .normal a' w) : (Code.region id ops true).wp P Q a w :=
  wp_region_any hm (wpAny_inv (Inv a) hdag hstep hdone ops.size _ (fun _ => false) a w.drew (by simp) (fun j hj => by
    rw [Array.getD_eq_getD_getElem?, Array.getElem?_replicate, if_pos hj]
    rfl) (Ls.todo_le _ _) hstart)
/-- The edges that bind lead back. -/
def backAny (ops : Array Oper) : Bool := (List.range ops.size).all fun i => ((ops[i]?).map fun o => o.after.all fun e => !Region.binds .any e || decide (e.on < i)).getD true
theorem dag_any {ops : Array Oper} (h : backAny ops = true) : ∀ (i : Nat) (o : Oper), ops[i]? = some o → ∀ e ∈ o.after, Region.binds .any e = true → e.on < i := by
  intro i o ho e he hb
  have hi : i < ops.size := (Array.getElem?_eq_some_iff.1 ho).1
  have := List.all_eq_true.1 h i (List.mem_range.2 hi)
  rw [ho] at this
  simp only [Option.map_some, Option.getD_some] at this
  have := Array.all_eq_true_iff_forall_mem.1 this e he
  rw [hb] at this
  simpa using this
theorem wpOp_of {i : Nat} {o : Oper} {a : Act} {w : World} {K : Act → World → Prop} (ho : ops[i]? = some o)
    (h : if Region.wanted o (yielded ops a.tmps) = true then o.wp P a w K Q else K (a.put o.dst undef) w) : wpOp P ops Q i K a w := by
  unfold wpOp
  rw [ho]
  simp only
  split
  · next hw => rw [if_pos hw] at h; exact .inl h
  · next hw => rw [if_neg hw] at h; exact h
end
end Go.Proofs.YtdmclfolooiccaaDoor
end
section
namespace Go.Proofs.YtdmclfolooiccaaDoor.Sh
open Go.Proofs.YtdmclfolooiccaaDoor
open Go.RowKit
set_option maxRecDepth 100000

structure Rg (a0 a : Act) (lo hi : Nat) : Prop where
  sz : a.tmps.size = a0.tmps.size
  df : a.defers = a0.defers
  out : ∀ j, (j < lo ∨ hi ≤ j) → a.tmps[j]? = a0.tmps[j]?
theorem Rg.refl (a0 : Act) (lo hi : Nat) : Rg a0 a0 lo hi := ⟨rfl, rfl, fun _ _ => rfl⟩
theorem put_at {a : Act} {i : Nat} {v : Value} (h : i < a.tmps.size) : (a.put (some i) v).tmps[i]? = some v := by
  simp [Act.put, h]
theorem put_ne {a : Act} {i j : Nat} {v : Value} (h : ¬ i = j) : (a.put (some i) v).tmps[j]? = a.tmps[j]? := by
  simp [Act.put, Array.getElem?_setIfInBounds_ne h]
theorem Rg.put {a0 a : Act} {lo hi i : Nat} (h : Rg a0 a lo hi) (v : Value) (h1 : lo ≤ i) (h2 : i < hi) : Rg a0 (a.put (some i) v) lo hi :=
  ⟨by simp [Act.put, h.sz], h.df, fun j hj => (put_ne (by omega)).trans (h.out j hj)⟩
theorem region_gen {P : Program} {c : Code} {Q : Exit → Act → World → Prop} {a : Act} {w : World} (h : ∀ a0, a0 = a → c.wp P Q a0 w) : c.wp P Q a w := h a rfl
theorem act_ext {a b : Act} (h1 : a.defers = b.defers) (h2 : ∀ j : Nat, a.tmps[j]? = b.tmps[j]?) : a = b := by
  obtain ⟨x, y⟩ := a
  obtain ⟨z, u⟩ := b
  dsimp only at h1 h2
  rw [Array.ext_getElem? h2, h1]
end Go.Proofs.YtdmclfolooiccaaDoor.Sh
end
