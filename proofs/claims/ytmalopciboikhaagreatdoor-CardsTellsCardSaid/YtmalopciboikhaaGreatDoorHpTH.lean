/-
  Merged texts: CkOn, CkNext, HpIns, CkLx, CkAwake, CkLaw, HpLess, HpSix, AlIns, LsInts, CkRefO, HpApp, HpSlab, HpOwn7.
-/
import Derived.Test.YtmalopciboikhaaGreatDoorHpTG
import Derived.Test.YtmalopciboikhaaGreatDoorHpTE
import Derived.Test.YtmalopciboikhaaGreatDoorCards
import Derived.Test.YtmalopciboikhaaGreatDoorTie
import Derived.Test.YtmalopciboikhaaGreatDoorHpTF
import Derived.Deep.SlicePairs
import Derived.Deep.Slices
import Derived.Deep.Fields
import Derived.ProofKit
import Derived.OpenShut
import Derived.ShutString
import Derived.ChangeOld
import Derived.LaidMore
import Derived.Lib.LaidTab
import Derived.Stop.Joined
import Derived.SevenTiedAt
import Derived.Laws.IdiomArrays
import Derived.Test.YtmalopciboikhaaGreatDoorRows
import Derived.WalkKit
import Derived.Deep.QuietTactic
import Derived.BigQuiet
import Derived.Test.YtmalopciboikhaaGreatDoorHpTA
section
namespace Go.Proofs.YtmalopciboikhaaGreatDoor.Ck
open Go.Proofs.YtmalopciboikhaaGreatDoor
open Go.RowKit
set_option maxRecDepth 100000

theorem row_of {base : Nat} {W : World} {v : Ls.Sl} {xs : List Int} (ho : W.ownsRow base 3 1 (.slice v.a v.n v.c) v.n (xs.map (Value.int .i64))) : Row W W.heap.size v.a v.n xs := by
  obtain ⟨a, c, e, hr, _, _⟩ := Ls.owns_row ho
  simp only [Value.slice.injEq, true_and] at e
  obtain ⟨rfl, rfl⟩ := e
  exact hr
theorem search_any (B : Nat) (A : Option Addr) (n c : Nat) (xs : List Int) (x : Int) (w : World) (hn : n ≤ 100000000) (hr : Row w B A n xs) (hs : xs.Pairwise (· ≤ ·)) :
    Calls Tryz.prog 74 #[.slice A n c, .int .i64 x] w fun e w' => ∃ i : Int, e = .returned (.tuple #[.int .i64 i, .bool (decide (x ∈ xs))]) ∧ ∃ q, w' = w.drewN q := by
  by_cases h0 : n = 0
  · subst h0
    have hx : xs = [] := List.eq_nil_of_length_eq_zero hr.1
    subst hx
    refine (Tryz.slices_BinarySearch_int_empty A c x w).mono ?_
    rintro e w1 ⟨rfl, rfl⟩
    exact ⟨0, rfl, 0, rfl⟩
  · obtain ⟨b, off, rfl, _, hc⟩ := hr.2 (by omega)
    have hl := hr.1
    have := Tryz.slices_BinarySearch_int b off n c xs x w (by omega) (by omega) (fun j hj => hc j (by omega)) (by rw [List.take_of_length_le (by omega)]; exact hs)
    rw [List.take_of_length_le (by omega), List.contains_eq_mem] at this
    exact this.mono fun e w' ⟨h1, h2⟩ => ⟨_, h1, h2⟩
section
variable (s : Hs) (d : Hd_) (w : World)
theorem on_no (k : Int) (hk : ¬ (0 ≤ k ∧ k < (s.c.n : Int))) : Calls Tryz.prog 30 #[(.agg #[.slice s.w.a s.w.n s.w.c, .slice s.p.a s.p.n s.p.c, .slice (s.u 0).a (s.u 0).n (s.u 0).c, .slice (s.u 1).a (s.u 1).n (s.u 1).c, .slice (s.u 2).a (s.u 2).n (s.u 2).c, .slice s.c.a s.c.n s.c.c]), .int .i64 k] w (Ls.AllOut w []) := by
  have HH := Lib.hid (fun W => has_any s k W)
  rw [decide_eq_false hk] at HH
  have b0 := (Below.refl w.heap.size w).alloc (Nat.le_refl _) (.cells #[.slice s.w.a s.w.n s.w.c, .slice s.p.a s.p.n s.p.c, .slice (s.u 0).a (s.u 0).n (s.u 0).c, .slice (s.u 1).a (s.u 1).n (s.u 1).c, .slice (s.u 2).a (s.u 2).n (s.u 2).c, .slice s.c.a s.c.n s.c.c] 28)
  clear hk
  go_enter Tryz.func30, Tryz.ntmps30
  go_wp2_with fail
  refine (HH.out _).mono ?_
  rintro e w1 ⟨rfl, hb1⟩
  have HB := Lib.hid (b0.trans (hb1.mono b0.size))
  clear b0 hb1
  go_wp2
  go_ret
  exact ⟨⟨none, 0, 0⟩, rfl, World.ownsRow_nil _ _ _ _, HB.out⟩
set_option maxHeartbeats 1000000 in
theorem on_core (k : Nat) (us : List Int) (hus : us = usedL s d) (hp : Hp w w.heap.size s d) (hz : Cl.Sz w) (hf : Fine s d) (hk : k < s.c.n) : Calls Tryz.prog 30 #[(.agg #[.slice s.w.a s.w.n s.w.c, .slice s.p.a s.p.n s.p.c, .slice (s.u 0).a (s.u 0).n (s.u 0).c, .slice (s.u 1).a (s.u 1).n (s.u 1).c, .slice (s.u 2).a (s.u 2).n (s.u 2).c, .slice s.c.a s.c.n s.c.c]), .int .i64 (k : Int)] w (Ls.AllOut w (onTo us k 8)) := by
  have HP := Lib.hid hp
  have HZ := Lib.hid hz
  have HF := Lib.hid hf
  have HH := Lib.hid (fun W => has_any s (k : Int) W)
  rw [decide_eq_true (show 0 ≤ (k : Int) ∧ (k : Int) < (s.c.n : Int) by omega)] at HH
  have hz0 := hz.pos
  have hk2 : k ≤ 100000 := by have := hf.cn; omega
  have HUS := Lib.hid hus
  have hrise := used_rise s d
  have hul : us.length ≤ 512 := by rw [hus]; exact Nat.le_trans (used_len s d) (allS_len d.f s.p.n)
  rw [← hus] at hrise
  have HR := Lib.hid hrise
  have b0 := (Below.refl w.heap.size w).alloc (Nat.le_refl _) (.cells #[.slice s.w.a s.w.n s.w.c, .slice s.p.a s.p.n s.p.c, .slice (s.u 0).a (s.u 0).n (s.u 0).c, .slice (s.u 1).a (s.u 1).n (s.u 1).c, .slice (s.u 2).a (s.u 2).n (s.u 2).c, .slice s.c.a s.c.n s.c.c] 28)
  clear hp hz hf hus hrise hk
  go_enter Tryz.func30, Tryz.ntmps30
  go_wp2_with fail
  refine (HH.out _).mono ?_
  rintro e w1 ⟨rfl, hb1⟩
  have N1 := Lib.hid (HNow.mk (d := d) ((HBox.new w s 28).next hb1) (b0.trans (hb1.mono b0.size)) (HP.out.below (b0.trans (hb1.mono b0.size))))
  have q0 := N1.out.box.c0
  have q1 := N1.out.box.c1
  have q2 := N1.out.box.c2
  have q3 := N1.out.box.c3
  have q4 := N1.out.box.c4
  have q5 := N1.out.box.c5
  have ql := N1.out.box.lt
  clear b0 hb1
  go_wp2_with fail
  refine (pused_any s d w1 N1.out.all (HZ.out.over N1.out.bel hz0) HF.out).mono ?_
  rw [← HUS.out]
  rintro e w2 ⟨v, rfl, ho, hb2⟩
  have N2 := Lib.hid (N1.out.next hb2)
  have hvl : v.n = us.length := by have := ho.1; simpa using this.symm
  have R2 := Lib.hid (row_of ho)
  have hvn : v.n ≤ 100000000 := by omega
  clear hb2 ho N1 hvl
  clear q0 q1 q2 q3 q4 q5 ql
  go_wp2
  go_loopw [6, 17] (fun o i wr => ∃ (t : Ls.Sl) (q : Nat), q ≤ 8 ∧ o = .slice t.a t.n t.c ∧ i = .int .i64 q ∧ Hid (Ls.Alling w2 wr t (onTo us k q))) (fun _ i _ => 8 - (intOf i).toNat)
  case atStart => exact ⟨⟨none, 0, 0⟩, 0, by omega, rfl, rfl, Lib.hid ⟨by rw [onTo_zero]; exact World.ownsRow_nil _ _ _ _, Below.refl _ _⟩⟩
  case round =>
    obtain ⟨t, q, hq, rfl, rfl, HA⟩ := hrel
    by_cases hlt : q < 8
    · have hx : ∀ W, Below w2.heap.size w2 W → Calls Tryz.prog 74 #[.slice v.a v.n v.c, .int .i64 (16 + (k : Int) * 8 + q)] W fun e w' => ∃ i : Int, e = .returned (.tuple #[.int .i64 i, .bool (decide (16 + (k : Int) * 8 + (q : Int) ∈ us))]) ∧ ∃ q, w' = W.drewN q :=
        fun W hW => search_any w2.heap.size v.a v.n v.c us _ W hvn (R2.out.below hW) (HR.out.imp (fun h => Int.le_of_lt h))
      have htn : t.n + 1 ≤ 4000000 := by
        have h1 := HA.out.len
        have h2 := onTo_len HR.out k q
        omega
      by_cases hm : 16 + (k : Int) * 8 + (q : Int) ∈ us
      · rw [decide_eq_true hm] at hx
        have HX := Lib.hid hx
        have HO := Lib.hid (onTo_yes HR.out rfl hm)
        clear hx hm
        go_wp2_with fail
        refine (HX.out wr HA.out.bel).mono ?_
        rintro e w5 ⟨ix, rfl, nq, rfl⟩
        have ha4 : Ls.Alling w2 (wr.drewN nq) t (onTo us k q) := ⟨HA.out.own, below_drawn' HA.out.bel nq⟩
        have HA4 := Lib.hid ha4
        clear ha4 HX
        generalize wr.drewN nq = w4 at HA4 ⊢
        go_wp2_with (at_builtin; refine Ls.list_cat rfl _ _ rfl rfl rfl (HA4.out.alloc _).own (Ls.row_lit1 _ _) (HA4.out.alloc _).bel.size htn ?_)
        intro p' cp' w5 hcat
        have hA5 := (HA4.out.alloc _).cat hcat
        rw [← HO.out] at hA5
        have H5 := Lib.hid hA5
        clear hcat hA5
        go_wp2
        go_roundw
        case rel => exact ⟨⟨p', t.n + 1, cp'⟩, q + 1, by omega, rfl, by go_num, H5⟩
        case measure => simp [intOf]; omega
      · rw [decide_eq_false hm] at hx
        have HX := Lib.hid hx
        have HO := Lib.hid (onTo_no (us := us) (k := k) (i := q) rfl hm)
        clear hx hm
        go_wp2_with fail
        refine (HX.out wr HA.out.bel).mono ?_
        rintro e w5 ⟨ix, rfl, nq, rfl⟩
        have ha4 : Ls.Alling w2 (wr.drewN nq) t (onTo us k (q + 1)) := ⟨by rw [HO.out]; exact HA.out.own, below_drawn' HA.out.bel nq⟩
        have HA4 := Lib.hid ha4
        clear ha4 HX
        go_wp2
        go_roundw
        case rel => exact ⟨t, q + 1, by omega, rfl, by go_num, HA4⟩
        case measure => simp [intOf]; omega
    · obtain rfl : q = 8 := by omega
      have HE := Lib.hid (And.intro (own_less' HA.out.own N2.out.bel.size) (N2.out.next HA.out.bel).bel)
      go_wp2
      go_ret
      exact ⟨t, rfl, HE.out.1, HE.out.2⟩
theorem on_any (k : Int) (hp : Hp w w.heap.size s d) (hz : Cl.Sz w) (hf : Fine s d) : Calls Tryz.prog 30 #[(.agg #[.slice s.w.a s.w.n s.w.c, .slice s.p.a s.p.n s.p.c, .slice (s.u 0).a (s.u 0).n (s.u 0).c, .slice (s.u 1).a (s.u 1).n (s.u 1).c, .slice (s.u 2).a (s.u 2).n (s.u 2).c, .slice s.c.a s.c.n s.c.c]), .int .i64 k] w (Ls.AllOut w (onL s d k)) := by
  by_cases h : 0 ≤ k ∧ k < (s.c.n : Int)
  · obtain ⟨i, rfl⟩ : ∃ i : Nat, k = i := ⟨k.toNat, by omega⟩
    have := on_core s d w i _ rfl hp hz hf (by omega)
    rwa [onTo_all] at this
  · rw [on_out h]
    exact on_no s w k h
end
end Go.Proofs.YtmalopciboikhaaGreatDoor.Ck
end
section
namespace Go.Proofs.YtmalopciboikhaaGreatDoor.Ck
open Go.Proofs.YtmalopciboikhaaGreatDoor
open Go.RowKit
set_option maxRecDepth 100000

theorem find_at {p : Int → Bool} {xs : List Int} {q : Nat} (hq : q < xs.length) (h : ∀ x ∈ xs.take q, p x = false) (hy : p (xs.getD q 0) = true) : xs.find? p = some (xs.getD q 0) := by
  have e : xs = xs.take q ++ xs[q] :: xs.drop (q + 1) := by rw [List.getElem_cons_drop, List.take_append_drop]
  have g : xs.getD q 0 = xs[q] := by simp [List.getD, hq]
  rw [g] at hy ⊢
  have h0 : (xs.take q).find? p = none := List.find?_eq_none.2 fun x hx => by rw [h x hx]; decide
  generalize xs[q] = y at e hy ⊢
  rw [e, List.find?_append, h0, Option.none_or, List.find?_cons_of_pos hy]
theorem find_no {p : Int → Bool} {xs : List Int} (h : ∀ x ∈ xs, p x = false) : xs.find? p = none := List.find?_eq_none.2 fun x hx => by rw [h x hx]; decide
theorem take_more {p : Int → Bool} {xs : List Int} {q : Nat} (hq : q < xs.length) (h : ∀ x ∈ xs.take q, p x = false) (hy : p (xs.getD q 0) = false) : ∀ x ∈ xs.take (q + 1), p x = false := by
  have g : xs.getD q 0 = xs[q] := by simp [List.getD, hq]
  rw [g] at hy
  intro x hx
  rw [List.take_succ_eq_append_getElem hq, List.mem_append, List.mem_singleton] at hx
  rcases hx with hx | rfl
  · exact h x hx
  · exact hy
section
variable (s : Hs) (d : Hd_) (w : World)
set_option maxHeartbeats 1000000 in
theorem next_core (k a : Int) (xs : List Int) (p : Int → Bool) (hpd : ∀ x, p x = (decide (a < x) && oldB s d x)) (hxl : xs.length ≤ 8) (hp : Hp w w.heap.size s d) (hz : Cl.Sz w) (hf : Fine s d) (hon : ∀ W, HNow w W s d → Calls Tryz.prog 30 #[(.agg #[.slice s.w.a s.w.n s.w.c, .slice s.p.a s.p.n s.p.c, .slice (s.u 0).a (s.u 0).n (s.u 0).c, .slice (s.u 1).a (s.u 1).n (s.u 1).c, .slice (s.u 2).a (s.u 2).n (s.u 2).c, .slice s.c.a s.c.n s.c.c]), .int .i64 k] W (Ls.AllOut W xs)) : Calls Tryz.prog 32 #[(.agg #[.slice s.w.a s.w.n s.w.c, .slice s.p.a s.p.n s.p.c, .slice (s.u 0).a (s.u 0).n (s.u 0).c, .slice (s.u 1).a (s.u 1).n (s.u 1).c, .slice (s.u 2).a (s.u 2).n (s.u 2).c, .slice s.c.a s.c.n s.c.c]), .int .i64 k, .int .i64 a] w fun e w' => e = .returned (.tuple #[.int .i64 ((xs.find? p).getD 0), .bool (xs.find? p).isSome]) ∧ Below w.heap.size w w' := by
  have HP := Lib.hid hp
  have HZ := Lib.hid hz
  have HF := Lib.hid hf
  have HON := Lib.hid hon
  have HPD := Lib.hid hpd
  have hz0 := hz.pos
  have b0 := (Below.refl w.heap.size w).alloc (Nat.le_refl _) (.cells #[.slice s.w.a s.w.n s.w.c, .slice s.p.a s.p.n s.p.c, .slice (s.u 0).a (s.u 0).n (s.u 0).c, .slice (s.u 1).a (s.u 1).n (s.u 1).c, .slice (s.u 2).a (s.u 2).n (s.u 2).c, .slice s.c.a s.c.n s.c.c] 28)
  obtain ⟨n, hn⟩ : ∃ n, xs.length = n := ⟨_, rfl⟩
  rw [hn] at hxl
  have HN := Lib.hid hn
  clear hp hz hf hon hpd hn
  go_enter Tryz.func32, Tryz.ntmps32
  go_wp2_with fail
  refine (HON.out _ ⟨HBox.new w s 28, b0, HP.out.below b0⟩).mono ?_
  rintro e w1 ⟨⟨va, vn, vc⟩, rfl, ho, hb1⟩
  have N1 := Lib.hid (HNow.mk (d := d) ((HBox.new w s 28).next hb1) (b0.trans (hb1.mono b0.size)) (HP.out.below (b0.trans (hb1.mono b0.size))))
  obtain rfl : vn = n := by have h1 := ho.1; have h2 := HN.out; simp only [List.length_map] at h1; omega
  have R1 := Lib.hid (row_of ho)
  clear b0 hb1 ho
  go_wp2
  go_loopw [16] (fun i wr => ∃ (q : Nat), q ≤ vn ∧ i = .int .i64 q ∧ Hid (HNow w wr s d ∧ Row wr wr.heap.size va vn xs ∧ ∀ x ∈ xs.take q, p x = false)) (fun i _ => vn - (intOf i).toNat)
  case atStart => exact ⟨0, by omega, rfl, Lib.hid ⟨N1.out, R1.out, fun x hx => by simp at hx⟩⟩
  case round =>
    obtain ⟨q, hq, rfl, HA⟩ := hrel
    by_cases hlt : q < vn
    · have NN := HN.out
      obtain ⟨b, off, rfl, hbl, hcell⟩ := HA.out.2.1.2 (by omega)
      have hq1 := hcell q hlt
      obtain ⟨y, hy⟩ : ∃ y, y = xs.getD q 0 := ⟨_, rfl⟩
      rw [← hy] at hq1
      have HY := Lib.hid hy
      have HQ : Hid (q < xs.length) := Lib.hid (by omega)
      clear hcell hy NN
      by_cases hya : y ≤ a
      · have a0 : decide (y ≤ a) = true := decide_eq_true hya
        have HM := Lib.hid (take_more HQ.out HA.out.2.2 (by rw [← HY.out, HPD.out, decide_eq_false (by omega), Bool.false_and]))
        have HB := Lib.hid (And.intro HA.out.1 (And.intro HA.out.2.1 HM.out))
        clear hya HM
        go_wp2
        go_roundw
        case rel => exact ⟨q + 1, by omega, by go_num, HB⟩
        case measure => simp [intOf]; omega
      · have a0 : decide (y ≤ a) = false := decide_eq_false hya
        have hH := phead_any s d y wr HA.out.1.all (HZ.out.over HA.out.1.bel hz0) HF.out
        obtain ⟨u, eo, hn, bo, ma, hV⟩ := old_form s d y
        rw [hV] at hH
        have HPY : Hid (p y = oldB s d y) := Lib.hid (by rw [HPD.out, decide_eq_true (by omega), Bool.true_and])
        cases hob : oldB s d y
        · rw [hob] at hH
          have HH := Lib.hid hH
          have HM := Lib.hid (take_more HQ.out HA.out.2.2 (by rw [← HY.out, HPY.out, hob]))
          have q0 := HA.out.1.box.c0
          have q1 := HA.out.1.box.c1
          have q2 := HA.out.1.box.c2
          have q3 := HA.out.1.box.c3
          have q4 := HA.out.1.box.c4
          have q5 := HA.out.1.box.c5
          have ql := HA.out.1.box.lt
          clear hH hV hob hya
          go_wp2_with fail
          refine HH.out.mono ?_
          rintro e w5 ⟨rfl, hb5⟩
          have hb6 := hb5.alloc hb5.size (.cells #[.bool u, .bool false, .bool eo, .int .i64 hn, .int .i64 bo, .int .i64 ma] 30)
          have HB := Lib.hid (And.intro (HA.out.1.next hb6) (And.intro ((HA.out.2.1.below hb6).more hb6.size) HM.out))
          clear hb5 hb6 HM q0 q1 q2 q3 q4 q5 ql HH
          go_wp2
          go_roundw
          case rel => exact ⟨q + 1, by omega, by go_num, HB⟩
          case measure => simp [intOf]; omega
        · rw [hob] at hH
          have HH := Lib.hid hH
          have HM := Lib.hid (find_at HQ.out HA.out.2.2 (by rw [← HY.out, HPY.out, hob]))
          have q0 := HA.out.1.box.c0
          have q1 := HA.out.1.box.c1
          have q2 := HA.out.1.box.c2
          have q3 := HA.out.1.box.c3
          have q4 := HA.out.1.box.c4
          have q5 := HA.out.1.box.c5
          have ql := HA.out.1.box.lt
          clear hH hV hob hya
          go_wp2_with fail
          refine HH.out.mono ?_
          rintro e w5 ⟨rfl, hb5⟩
          have hb6 := hb5.alloc hb5.size (.cells #[.bool u, .bool true, .bool eo, .int .i64 hn, .int .i64 bo, .int .i64 ma] 30)
          have HB := Lib.hid (HA.out.1.next hb6).bel
          clear hb5 hb6 q0 q1 q2 q3 q4 q5 ql HH
          go_wp2
          go_ret2
          refine ⟨?_, HB.out⟩
          rw [HM.out, ← HY.out]
          rfl
    · obtain rfl : q = vn := by omega
      have HE := Lib.hid (And.intro (find_no (p := p) (xs := xs) (by have h1 := HA.out.2.2; rwa [List.take_of_length_le (by have := HN.out; omega)] at h1)) HA.out.1.bel)
      go_wp2
      go_ret2
      refine ⟨?_, HE.out.2⟩
      rw [HE.out.1]
      rfl
theorem next_any (k a : Int) (hp : Hp w w.heap.size s d) (hz : Cl.Sz w) (hf : Fine s d) : Calls Tryz.prog 32 #[(.agg #[.slice s.w.a s.w.n s.w.c, .slice s.p.a s.p.n s.p.c, .slice (s.u 0).a (s.u 0).n (s.u 0).c, .slice (s.u 1).a (s.u 1).n (s.u 1).c, .slice (s.u 2).a (s.u 2).n (s.u 2).c, .slice s.c.a s.c.n s.c.c]), .int .i64 k, .int .i64 a] w fun e w' => e = .returned (.tuple #[.int .i64 (nextA s d k a), .bool (nextB s d k a)]) ∧ Below w.heap.size w w' :=
  next_core s d w k a (onL s d k) _ (fun _ => rfl) (on_len s d k) hp hz hf fun W h => on_any s d W k h.all (hz.over h.bel hz.pos) hf
end
end Go.Proofs.YtmalopciboikhaaGreatDoor.Ck
end
section
namespace Go.Proofs.YtmalopciboikhaaGreatDoor
open Go.ChangeShapes Go.WideShapes Go.ChangeAt Go.RowKit Go.Deep
set_option maxRecDepth 100000

theorem own : ownKnob Tryz.prog.godebug = none := by kernel_rfl
theorem laidOut : laidOutB Tryz.prog = true := by kernel_rfl
def laidSizes : List (String × DataW Unit) := [("ragpicker/class.sizes", Rows.laid_ragpicker_class_sizes)]
theorem gSizes : Tryz.prog.globalNamed "ragpicker/class.sizes" = some 0 := by kernel_rfl
theorem tSizes : (Tryz.prog.globals[0]?).map (·.type) = some 135 := by kernel_rfl
theorem cInt : Tryz.prog.cellsOf 3 = 1 := by kernel_rfl
theorem cSizes : Tryz.prog.cellsOf 135 = 3 := by kernel_rfl
theorem of_laid {W : World} (h : laidMetH Tryz.prog laidSizes W) : Cl.Sz W := by
  rw [MakeChecks.laidMetH_plain _ _ _ (by kernel_rfl)] at h
  have hT : Lib.TabIs Tryz.prog W "ragpicker/class.sizes" .i64 [2, 4, 8] := Lib.tabIs_of_head gSizes tSizes Tryz.underlying135 Tryz.underlying3 cInt cSizes h
  exact ⟨hT.cell gSizes 0 (by decide), hT.cell gSizes 1 (by decide), hT.cell gSizes 2 (by decide)⟩
theorem door_met (os : Os) (args : Array Value) : laidMetH Tryz.prog laidSizes ((World.doorLaid Tryz.prog 400 os).forCall (fun _ _ => 0) ⟨#[], args, []⟩).memory :=
  laidMetH_of_parts3 (fuel := 8) (laidMet_of_run' 8 (by kernel_rfl) (by kernel_rfl)) (by kernel_rfl) (by kernel_rfl)

/-- How much a reading holds. -/
theorem bulk_one {H : Type} (d : DataW H) : 1 ≤ Rows.uptoBulk d := by
  cases d <;> first | (simp only [Rows.uptoBulk]; omega) | (rename_i l; cases l <;> simp [Rows.uptoBulk])
theorem bulk_long {H : Type} : ∀ l : List (DataW H), l.length ≤ Rows.uptoBulkAll l
  | [] => by simp [Rows.uptoBulkAll]
  | x :: r => by
    have h1 := bulk_one x
    have h2 := bulk_long r
    simp only [Rows.uptoBulkAll, List.length_cons]
    omega
theorem bulk_slice {H : Type} (l r : List (DataW H)) : l.length ≤ Rows.uptoBulk (.slice l r) := by
  have := bulk_long l
  simp only [Rows.uptoBulk]
  omega
theorem wf_bounds {n : Int} (h : (Lit.int .i64 n).wf = true) : -9223372036854775808 ≤ n ∧ n ≤ 9223372036854775807 := by
  simpa [Lit.wf, IntKind.min, IntKind.max, IntKind.signed, IntKind.bits] using h
def Fit64 (zs : List Int) : Prop := ∀ i, -9223372036854775808 ≤ zs.getD i 0 ∧ zs.getD i 0 ≤ 9223372036854775807
/-- A slice of numbers that comes in. -/
theorem ints_in {H : Type} {enc : TypeId × Value → H} {w : World} {base : Nat} {spare : Nat → Bool} {held : Bool} {fuel : Nat} {cs : List Value} {x : DataW H × List MemPlace}
    (h : DataW.trod enc Tryz.prog w base spare held fuel 22 cs = some x) :
    ∃ (s : Ls.Sl) (zs : List Int), cs = [.slice s.a s.n s.c] ∧ (Row w w.heap.size s.a s.n zs ∧ s.n ≤ s.c ∧ s.c ≤ maxLen) ∧ s.n ≤ Rows.uptoBulk x.1 ∧ Fit64 zs := by
  rcases open_ints Tryz.underlying22 Tryz.underlying3 (by kernel_rfl) h with ⟨rfl, rfl⟩ | ⟨y, len, cap, zs, rfl, _, hl, hm, hz, rfl, hcell, hwz⟩
  · exact ⟨⟨none, 0, 0⟩, [], rfl, ⟨Row.none_ _ _, Nat.le_refl _, by show (0 : Nat) ≤ maxLen; unfold maxLen; omega⟩, Nat.zero_le _, fun i => by simp⟩
  · have hz' : len ≤ zs.length := by rw [hz]; split <;> omega
    refine ⟨⟨some y, len, cap⟩, zs.take len, rfl, ⟨⟨by simp; omega, fun hn => ?_⟩, hl, hm⟩, ?_, fun i => ?_⟩
    · have hn' : 0 < len := hn
      obtain ⟨b, off, spot⟩ := y
      have h0 := hcell 0 (by omega)
      have hs : spot = none := by simpa [Addr.add] using World.cell?_spot h0
      subst hs
      refine ⟨b, off, rfl, ?_, fun i hi => ?_⟩
      · have := World.block_lt_of_cell? w _ h0
        simpa [Addr.add] using this
      · have hi' : i < len := hi
        have := hcell i (by omega)
        rw [Addr.add_lit] at this
        rw [this]
        simp [List.getD, hi']
    · have := bulk_slice (H := H) (lits .i64 (zs.take len)) (lits .i64 (zs.drop len))
      have e : (lits (H := H) .i64 (zs.take len)).length = len := by simp [lits]; omega
      show len ≤ Rows.uptoBulk (DataW.slice (lits .i64 (zs.take len)) (lits .i64 (zs.drop len)))
      rw [e] at this
      exact this
    · by_cases hi : i < len
      · have hi2 : i < zs.length := by omega
        have h1 := hwz (zs.getD i 0) (getD_mem hi2)
        rw [show (zs.take len).getD i 0 = zs.getD i 0 by simp [List.getD, hi]]
        exact wf_bounds h1
      · rw [show (zs.take len).getD i 0 = 0 by simp [List.getD, List.getElem?_eq_none (show (zs.take len).length ≤ i by simp; omega)]]
        omega
theorem bools_in {H : Type} {enc : TypeId × Value → H} {w : World} {base : Nat} {spare : Nat → Bool} {held : Bool} {fuel : Nat} {cs : List Value} {x : DataW H × List MemPlace}
    (h : DataW.trod enc Tryz.prog w base spare held fuel 26 cs = some x) : ∃ (s : Ls.Sl) (f : Nat → Bool), cs = [.slice s.a s.n s.c] ∧ BRow w w.heap.size s.a s.n f := by
  rcases open_slice Tryz.underlying26 h with ⟨hcs, _⟩ | ⟨y, len, cap, m, k, D, Pl, hcs, _, hl, hm, hmm, _, hi⟩
  · exact ⟨⟨none, 0, 0⟩, fun _ => false, hcs, fun h0 => absurd h0 (by simp)⟩
  · have hm' : len ≤ m := by rw [hmm]; split <;> omega
    have each : ∀ i, i < len → ∃ v : Bool, w.cell? ((y.add (i * 1)).add 0) = some (.bool v) := by
      intro i hlt
      obtain ⟨cs', h1, h2⟩ := hi i (by omega)
      have ce : Tryz.prog.cellsOf 4 = 1 := by kernel_rfl
      rw [ce] at h1
      obtain ⟨_, hlen, hcell⟩ := World.cells?_some h1
      match cs', hlen with
      | [c0], _ =>
        obtain ⟨v, e, _⟩ := DataW.trod_bool Tryz.underlying4 h2
        simp only [List.cons.injEq, and_true] at e
        subst e
        exact ⟨v, by simpa using hcell 0 (by decide)⟩
    obtain ⟨q, hq⟩ := choose_lt each
    refine ⟨⟨some y, len, cap⟩, q, hcs, fun hn => ?_⟩
    have hn' : 0 < len := hn
    obtain ⟨b, off, spot⟩ := y
    have h0 := hq 0 hn'
    have hs : spot = none := by simpa [Addr.add] using World.cell?_spot h0
    subst hs
    refine ⟨b, off, rfl, ?_, fun i hlt => ?_⟩
    · have := World.block_lt_of_cell? w _ h0
      simpa [Addr.add] using this
    · have := hq i hlt
      rw [Addr.add_lit, Addr.add_lit, Nat.mul_one] at this
      exact this
/-- Three of them. -/
def tri {α : Type} (a b c : α) : Nat → α
  | 0 => a
  | 1 => b
  | _ => c
theorem lists_in {H : Type} {enc : TypeId × Value → H} {w : World} {base : Nat} {spare : Nat → Bool} {held : Bool} {fuel : Nat} {c0 c1 c2 : Value} {x : DataW H × List MemPlace}
    (h : DataW.trod enc Tryz.prog w base spare held fuel 25 [c0, c1, c2] = some x) :
    ∃ (u : Nat → Ls.Sl) (f : Nat → List Int), [c0, c1, c2] = [.slice (u 0).a (u 0).n (u 0).c, .slice (u 1).a (u 1).n (u 1).c, .slice (u 2).a (u 2).n (u 2).c] ∧ Ls.L3 w w.heap.size u f ∧ (u 0).n + (u 1).n + (u 2).n ≤ Rows.uptoBulk x.1 := by
  obtain ⟨y0, y1, y2, n, rfl, h0, h1, h2⟩ := trod_array3 Tryz.underlying25 (by kernel_rfl) h
  obtain ⟨s0, z0, e0, r0, b0, _⟩ := ints_in h0
  obtain ⟨s1, z1, e1, r1, b1, _⟩ := ints_in h1
  obtain ⟨s2, z2, e2, r2, b2, _⟩ := ints_in h2
  simp only [List.cons.injEq, and_true] at e0 e1 e2
  refine ⟨tri s0 s1 s2, tri z0 z1 z2, by rw [e0, e1, e2]; rfl, fun j hj => ?_, ?_⟩
  · match j, hj with
    | 0, _ => exact r0
    | 1, _ => exact r1
    | 2, _ => exact r2
  · simp only [Rows.uptoBulk, Rows.uptoBulkAll, tri]
    omega
end Go.Proofs.YtmalopciboikhaaGreatDoor
end
section
namespace Go.Proofs.YtmalopciboikhaaGreatDoor.Ck
open Go.Proofs.YtmalopciboikhaaGreatDoor
open Go.RowKit
set_option maxRecDepth 100000

theorem bl_call {w W W' : World} (h : Below w.heap.size w W) (hb : Below W.heap.size W W') : Below w.heap.size w W' := h.trans (hb.mono h.size)
structure Lx (w W : World) (A : Option Addr) (n : Nat) (U : Nat → Nat → Ls.Sl) (F : Nat → Nat → List Int) (hs : List (Nat × Hs × Hd_)) : Prop where
  bel : Below w.heap.size w W
  lr : Ls.LRow W W.heap.size A n U F
  h : ∀ x ∈ hs, HBox W x.1 x.2.1 ∧ Hp W W.heap.size x.2.1 x.2.2
section
variable {w w3 W W' : World} {s t t1 t2 : Hs} {d d1 d2 : Hd_} {A : Option Addr} {n b b1 b2 : Nat} {U : Nat → Nat → Ls.Sl} {F : Nat → Nat → List Int} {hs : List (Nat × Hs × Hd_)} {ty : TypeId}
theorem Lx.next (h : Lx w W A n U F hs) (hb : Below W.heap.size W W') : Lx w W' A n U F hs := ⟨h.bel.trans (hb.mono h.bel.size), lrow_more (h.lr.below hb) hb.size, fun x hx => ⟨(h.h x hx).1.next hb, (h.h x hx).2.next hb⟩⟩
theorem Lx.at (h : Lx w W A n U F hs) (b : Nat) (s : Hs) (d : Hd_) (hm : (b, s, d) ∈ hs) : HBox W b s := (h.h _ hm).1
theorem Lx.hp (h : Lx w W A n U F hs) (b : Nat) (s : Hs) (d : Hd_) (hm : (b, s, d) ∈ hs) : Hp W W.heap.size s d := (h.h _ hm).2
/-- A heap in new memory. -/
structure Nw (w3 W : World) (b : Nat) (t : Hs) (d : Hd_) : Prop where
  bel : Below w3.heap.size w3 W
  box : HBox W b t
  hp : Hp W W.heap.size t d
theorem Lx.add (h : Lx w w3 A n U F hs) (k : Nw w3 W b t d) : Lx w W A n U F ((b, t, d) :: hs) := by
  have h1 := h.next k.bel
  refine ⟨h1.bel, h1.lr, fun x hx => ?_⟩
  rcases List.mem_cons.1 hx with rfl | hx
  · exact ⟨k.box, k.hp⟩
  · exact h1.h x hx
theorem nw_new (bel : Below w3.heap.size w3 W) (hp : Hp W W.heap.size t d) : Nw w3 (W.alloc (.cells #[.slice t.w.a t.w.n t.w.c, .slice t.p.a t.p.n t.p.c, .slice (t.u 0).a (t.u 0).n (t.u 0).c, .slice (t.u 1).a (t.u 1).n (t.u 1).c, .slice (t.u 2).a (t.u 2).n (t.u 2).c, .slice t.c.a t.c.n t.c.c] ty)) W.heap.size t d :=
  have b2 : Below W.heap.size W (W.alloc (.cells #[.slice t.w.a t.w.n t.w.c, .slice t.p.a t.p.n t.p.c, .slice (t.u 0).a (t.u 0).n (t.u 0).c, .slice (t.u 1).a (t.u 1).n (t.u 1).c, .slice (t.u 2).a (t.u 2).n (t.u 2).c, .slice t.c.a t.c.n t.c.c] ty)) := (Below.refl _ _).alloc (Nat.le_refl _) _
  ⟨bl_call bel b2, HBox.new W t ty, hp.next b2⟩
theorem lx_start (hp : Hp w w.heap.size s d) (hl : Ls.LRow w w.heap.size A n U F) (h : W = w.alloc (.cells #[.slice s.w.a s.w.n s.w.c, .slice s.p.a s.p.n s.p.c, .slice (s.u 0).a (s.u 0).n (s.u 0).c, .slice (s.u 1).a (s.u 1).n (s.u 1).c, .slice (s.u 2).a (s.u 2).n (s.u 2).c, .slice s.c.a s.c.n s.c.c] ty)) : Lx w W A n U F [(w.heap.size, s, d)] := by
  have b1 : Below w.heap.size w W := by rw [h]; exact (Below.refl _ _).alloc (Nat.le_refl _) _
  refine ⟨b1, lrow_more (hl.below b1) b1.size, fun x hx => ?_⟩
  obtain rfl := List.mem_singleton.1 hx
  exact ⟨by rw [h]; exact HBox.new w s _, hp.next b1⟩
theorem six_of (h : HBox W b s) : b < W.heap.size ∧ W.cell? ⟨b, 0, none⟩ = some (.slice s.w.a s.w.n s.w.c) ∧ W.cell? ⟨b, 1, none⟩ = some (.slice s.p.a s.p.n s.p.c) ∧ W.cell? ⟨b, 2, none⟩ = some (.slice (s.u 0).a (s.u 0).n (s.u 0).c) ∧ W.cell? ⟨b, 3, none⟩ = some (.slice (s.u 1).a (s.u 1).n (s.u 1).c) ∧ W.cell? ⟨b, 4, none⟩ = some (.slice (s.u 2).a (s.u 2).n (s.u 2).c) ∧ W.cell? ⟨b, 5, none⟩ = some (.slice s.c.a s.c.n s.c.c) := ⟨h.lt, h.c0, h.c1, h.c2, h.c3, h.c4, h.c5⟩
theorem lx_keep1 (m1 : (b1, t1, d1) ∈ hs) (h : Lx w W A n U F hs ∧ True) (hb : Below W.heap.size W W') : (Lx w W' A n U F hs ∧ True) ∧ b1 < W'.heap.size ∧ W'.cell? ⟨b1, 0, none⟩ = some (.slice t1.w.a t1.w.n t1.w.c) ∧ W'.cell? ⟨b1, 1, none⟩ = some (.slice t1.p.a t1.p.n t1.p.c) ∧ W'.cell? ⟨b1, 2, none⟩ = some (.slice (t1.u 0).a (t1.u 0).n (t1.u 0).c) ∧ W'.cell? ⟨b1, 3, none⟩ = some (.slice (t1.u 1).a (t1.u 1).n (t1.u 1).c) ∧ W'.cell? ⟨b1, 4, none⟩ = some (.slice (t1.u 2).a (t1.u 2).n (t1.u 2).c) ∧ W'.cell? ⟨b1, 5, none⟩ = some (.slice t1.c.a t1.c.n t1.c.c) :=
  ⟨⟨h.1.next hb, trivial⟩, six_of ((h.1.next hb).at b1 t1 d1 m1)⟩
end
/-- Lists of a heap that is small. -/
theorem few_lists {w : World} {B : Nat} {s : Hs} {d : Hd_} (h : fewH s = true) (hp : Hp w B s d) : ∀ j, j < 3 → (s.u j).n ≤ 70 ∧ (d.F j).length ≤ 70 := fun j hj => by
  have h4 := (few_parts h).2.2.2
  unfold lightB at h4
  simp only [decide_eq_true_eq] at h4
  have := hp.free.len j hj
  rcases (show j = 0 ∨ j = 1 ∨ j = 2 by omega) with rfl | rfl | rfl <;> omega
end Go.Proofs.YtmalopciboikhaaGreatDoor.Ck
end
section
namespace Go.Proofs.YtmalopciboikhaaGreatDoor.Ck
open Go.Proofs.YtmalopciboikhaaGreatDoor
open Go.RowKit
set_option maxRecDepth 100000

def dA : Hd_ := ⟨List.replicate 32 0, fun _ => (0, 0), Ls.noLists, fun _ => false⟩
def Sz2 (s : Hs) : Prop := s.w.n = 32 ∧ s.p.n = 2 ∧ s.c.n = 4
theorem zeros_at (n i : Nat) : (List.replicate n (0 : Int)).getD i 0 = 0 := by by_cases h : i < n <;> simp [List.getD, h]
theorem fine_A {s : Hs} (h : Sz2 s) : Fine s dA := by
  obtain ⟨h1, h2, h3⟩ := h
  refine ⟨by omega, by omega, by omega, fun i => ?_, by decide⟩
  have : dA.ws.getD i 0 = 0 := zeros_at 32 i
  omega
theorem of_A {s : Hs} (h : Sz2 s) : ofE s dA 31 = 0 ∧ ofN s dA 31 = 1 ∧ ofE s dA 32 = 0 ∧ ofN s dA 32 = 2 := by
  obtain ⟨⟨a1, n1, c1⟩, ⟨a2, n2, c2⟩, x, ⟨a3, n3, c3⟩⟩ := s
  obtain ⟨h1, h2, h3⟩ := h
  dsimp only at h1 h2 h3
  subst h1 h2 h3
  exact ⟨by kernel_rfl, by kernel_rfl, by kernel_rfl, by kernel_rfl⟩
theorem dir_A {s : Hs} (h : Sz2 s) : dirR s dA 32 = ⟨ck dA 2 true, 32, 2, 4, 0⟩ := by
  obtain ⟨⟨a1, n1, c1⟩, ⟨a2, n2, c2⟩, x, ⟨a3, n3, c3⟩⟩ := s
  obtain ⟨h1, h2, h3⟩ := h
  dsimp only at h1 h2 h3
  subst h1 h2 h3
  kernel_rfl
theorem is_A {s : Hs} (h : Sz2 s) : isB s (ck dA 2 true) 39 = true ∧ isB s (ck dA 2 true) 31 = false := by
  obtain ⟨⟨a1, n1, c1⟩, ⟨a2, n2, c2⟩, x, ⟨a3, n3, c3⟩⟩ := s
  obtain ⟨h1, h2, h3⟩ := h
  dsimp only at h1 h2 h3
  subst h1 h2 h3
  exact ⟨by kernel_rfl, by kernel_rfl⟩
theorem new_A (w : World) : Calls Tryz.prog 36 #[.int .i64 2] w (HOut w ⟨dA, 32, 2, 4, 0⟩) :=
  (new_ok 2 w (by omega) (by omega)).mono fun _ _ ⟨A, C, g, cw, h1, h2, h3, h4, h5⟩ => ⟨⟨⟨some ⟨g, 0, none⟩, 16 * 2, cw⟩, ⟨A, 2, 2⟩, Ls.noSl, ⟨C, 2 * 2, 2 * 2⟩⟩, h1, ⟨h2, h3, Ls.L3.none_ _ _, h4⟩, ⟨rfl, rfl, rfl⟩, h5⟩
set_option maxHeartbeats 2000000 in
theorem awake_any (w : World) (hz : Cl.Sz w) : Calls Tryz.prog 21 #[] w fun e w' => e = .returned (.bool true) ∧ Below w.heap.size w w' := by
  have HZ := Lib.hid hz
  have hz0 := hz.pos
  obtain ⟨U, hU⟩ := lrow_none w w.heap.size
  clear hz
  go_enter Tryz.func21, Tryz.ntmps21
  go_wp2_with fail
  refine (new_A w).mono ?_
  rintro e w1 ⟨s, rfl, hp1, hl1, hb1⟩
  have NN := Lib.hid (And.intro hl1 hb1)
  have HS := Lib.hid (show Sz2 s from hl1)
  have HP := Lib.hid hp1
  clear hp1 hl1 hb1
  go_wp2_with fail
  obtain ⟨W1, hW1⟩ : ∃ W1, W1 = w1.alloc (.cells #[.slice s.w.a s.w.n s.w.c, .slice s.p.a s.p.n s.p.c, .slice (s.u 0).a (s.u 0).n (s.u 0).c, .slice (s.u 1).a (s.u 1).n (s.u 1).c, .slice (s.u 2).a (s.u 2).n (s.u 2).c, .slice s.c.a s.c.n s.c.c] 28) := ⟨_, rfl⟩
  have L1 := Lib.hid (lx_start (A := none) (n := 0) (U := U) (F := noCaches) HP.out (fun h => absurd h (by omega)) hW1)
  rw [← hW1]
  clear hW1
  have HZ1 : Hid (∀ W, Below w1.heap.size w1 W → Cl.Sz W) := Lib.hid (fun W h => HZ.out.over (NN.out.2.trans (h.mono NN.out.2.size)) hz0)
  have hO1 := of_any s dA W1 31 (L1.out.hp w1.heap.size s dA (by simp)) (HZ1.out _ L1.out.bel) (fine_A HS.out) (by omega)
  rw [(of_A HS.out).1, (of_A HS.out).2.1] at hO1
  refine hO1.mono ?_
  rintro e w2 ⟨rfl, hb2⟩
  have L2 := Lib.hid (L1.out.next hb2)
  clear hb2 hO1 L1
  have q0 := (L2.out.at (w1.heap.size) s dA (by simp)).c0
  have q1 := (L2.out.at (w1.heap.size) s dA (by simp)).c1
  have q2 := (L2.out.at (w1.heap.size) s dA (by simp)).c2
  have q3 := (L2.out.at (w1.heap.size) s dA (by simp)).c3
  have q4 := (L2.out.at (w1.heap.size) s dA (by simp)).c4
  have q5 := (L2.out.at (w1.heap.size) s dA (by simp)).c5
  have ql := (L2.out.at (w1.heap.size) s dA (by simp)).lt
  go_wp2_with fail
  have hO2 := of_any s dA w2 32 (L2.out.hp w1.heap.size s dA (by simp)) (HZ1.out _ L2.out.bel) (fine_A HS.out) (by omega)
  rw [(of_A HS.out).2.2.1, (of_A HS.out).2.2.2] at hO2
  refine hO2.mono ?_
  rintro e w3 ⟨rfl, hb3⟩
  have L3 := Lib.hid (L2.out.next hb3)
  clear hb3 hO2 L2
  clear q0 q1 q2 q3 q4 q5 ql
  have q0 := (L3.out.at w1.heap.size s dA (by simp)).c0
  have q1 := (L3.out.at w1.heap.size s dA (by simp)).c1
  have q2 := (L3.out.at w1.heap.size s dA (by simp)).c2
  have q3 := (L3.out.at w1.heap.size s dA (by simp)).c3
  have q4 := (L3.out.at w1.heap.size s dA (by simp)).c4
  have q5 := (L3.out.at w1.heap.size s dA (by simp)).c5
  have ql := (L3.out.at w1.heap.size s dA (by simp)).lt
  go_wp2_with fail
  have hD := dirty_any s dA w3 32 (L3.out.hp w1.heap.size s dA (by simp)) (HZ1.out _ L3.out.bel) (fine_A HS.out) (by omega)
  rw [dir_A HS.out] at hD
  refine hD.mono ?_
  rintro e w4 ⟨t, rfl, hp4, hl4, hb4⟩
  have HT := Lib.hid (show Sz2 t from hl4)
  have L4 := Lib.hid (L3.out.add (nw_new (ty := 28) hb4 hp4))
  clear hp4 hl4 hb4 hD L3
  clear q0 q1 q2 q3 q4 q5 ql
  go_upto_region 5 with fail
  obtain ⟨W5, hW5⟩ : ∃ W, W = w4.alloc (.cells #[.slice t.w.a t.w.n t.w.c, .slice t.p.a t.p.n t.p.c, .slice (t.u 0).a (t.u 0).n (t.u 0).c, .slice (t.u 1).a (t.u 1).n (t.u 1).c, .slice (t.u 2).a (t.u 2).n (t.u 2).c, .slice t.c.a t.c.n t.c.c] 28) := ⟨_, rfl⟩
  obtain ⟨b1, hb1⟩ : ∃ b, b = w4.heap.size := ⟨_, rfl⟩
  rw [← hW5, ← hb1] at L4
  rw [← hW5, ← hb1]
  clear hW5 hb1
  have q0 := (L4.out.at b1 t (ck dA 2 true) (by simp)).c0
  have q1 := (L4.out.at b1 t (ck dA 2 true) (by simp)).c1
  have q2 := (L4.out.at b1 t (ck dA 2 true) (by simp)).c2
  have q3 := (L4.out.at b1 t (ck dA 2 true) (by simp)).c3
  have q4 := (L4.out.at b1 t (ck dA 2 true) (by simp)).c4
  have q5 := (L4.out.at b1 t (ck dA 2 true) (by simp)).c5
  have ql := (L4.out.at b1 t (ck dA 2 true) (by simp)).lt
  have hI1 := is_any t (ck dA 2 true) W5 39 (L4.out.hp b1 t (ck dA 2 true) (by simp)) (HZ1.out _ L4.out.bel) (fine_ck (s := t) ⟨rfl, rfl, rfl⟩ (fine_A HT.out) 2 true) (by omega)
  rw [(is_A HT.out).1] at hI1
  go_wp2_with fail
  refine hI1.mono ?_
  rintro e w6 ⟨rfl, hb6⟩
  have L6 := Lib.hid (L4.out.next hb6)
  clear hb6 hI1 L4
  clear q0 q1 q2 q3 q4 q5 ql
  have q0 := (L6.out.at b1 t (ck dA 2 true) (by simp)).c0
  have q1 := (L6.out.at b1 t (ck dA 2 true) (by simp)).c1
  have q2 := (L6.out.at b1 t (ck dA 2 true) (by simp)).c2
  have q3 := (L6.out.at b1 t (ck dA 2 true) (by simp)).c3
  have q4 := (L6.out.at b1 t (ck dA 2 true) (by simp)).c4
  have q5 := (L6.out.at b1 t (ck dA 2 true) (by simp)).c5
  have ql := (L6.out.at b1 t (ck dA 2 true) (by simp)).lt
  have hI2 := is_any t (ck dA 2 true) w6 31 (L6.out.hp b1 t (ck dA 2 true) (by simp)) (HZ1.out _ L6.out.bel) (fine_ck (s := t) ⟨rfl, rfl, rfl⟩ (fine_A HT.out) 2 true) (by omega)
  rw [(is_A HT.out).2] at hI2
  go_wp2_with fail
  refine hI2.mono ?_
  rintro e w7 ⟨rfl, hb7⟩
  have L7 := Lib.hid (L6.out.next hb7)
  clear hb7 hI2 L6
  clear q0 q1 q2 q3 q4 q5 ql
  go_wp2
  go_ret
  exact ⟨rfl, NN.out.2.trans (L7.out.bel.mono NN.out.2.size)⟩
end Go.Proofs.YtmalopciboikhaaGreatDoor.Ck
end
section
namespace Go.Proofs.YtmalopciboikhaaGreatDoor.Ck
open Go.Proofs.YtmalopciboikhaaGreatDoor
open Go.RowKit
set_option maxRecDepth 100000

section
variable (s : Hs) (d : Hd_) (w : World)
end
end Go.Proofs.YtmalopciboikhaaGreatDoor.Ck
end
section
namespace Go.Proofs.YtmalopciboikhaaGreatDoor
open Go.ChangeShapes Go.WideShapes Go.ChangeAt Go.RowKit Go.Deep
set_option maxRecDepth 100000

end Go.Proofs.YtmalopciboikhaaGreatDoor
end
section
namespace Go.Proofs.YtmalopciboikhaaGreatDoor
open Go.ChangeShapes Go.WideShapes Go.ChangeAt Go.RowKit Go.Deep

section
variable {H : Type} {enc : TypeId × Value → H} {P : Program} {w : World} {base : Nat} {spare : Nat → Bool} {held : Bool}

end
end Go.Proofs.YtmalopciboikhaaGreatDoor
end
section
namespace Go.Proofs.YtmalopciboikhaaGreatDoor
open Go.ChangeShapes Go.WideShapes Go.ChangeAt Go.RowKit Go.Deep
set_option maxRecDepth 100000

theorem pin_cap {H : Type} {enc : TypeId × Value → H} {w : World} {base : Nat} {spare : Nat → Bool} {held : Bool} {fuel : Nat} {cs : List Value} {x : DataW H × List MemPlace}
    (h : DataW.trod enc Tryz.prog w base spare held fuel 23 cs = some x) : ∃ (s : Ls.Sl) (f : Nat → Int × Int), cs = [.slice s.a s.n s.c] ∧ Cl.PRow w w.heap.size s.a s.n f ∧ s.n ≤ s.c := by
  rcases open_slice_pairs Tryz.underlying23 Tryz.underlying76 (by kernel_rfl) rfl rfl (by kernel_rfl) (by kernel_rfl) h with ⟨hcs, _⟩ | ⟨x, l, c, m, n, V0, V1, D0, D1, P0, P1, hcs, _, hl, hm, hmm, _, hi⟩
  · exact ⟨⟨none, 0, 0⟩, fun _ => (0, 0), hcs, Cl.PRow.empty _ _ _ _, Nat.le_refl _⟩
  · refine ⟨⟨some x, l, c⟩, fun i => (intOf (V0 i), intOf (V1 i)), hcs, fun hn => ?_, hl⟩
    have hn' : 0 < l := hn
    have hm' : l ≤ m := by rw [hmm]; split <;> omega
    obtain ⟨b, off, spot⟩ := x
    have h0 := (hi 0 (by omega)).1
    have hs : spot = none := by simpa [Addr.add] using World.cell?_spot h0
    subst hs
    refine ⟨b, off, rfl, ?_, fun i hlt => ?_⟩
    · have := World.block_lt_of_cell? w _ h0
      simpa [Addr.add] using this
    · have hlt' : i < l := hlt
      obtain ⟨g0, g1, t0, t1⟩ := hi i (by omega)
      rw [Addr.add_lit] at g0 g1
      rw [← Nat.add_assoc] at g1
      obtain ⟨z0, e0, _⟩ := DataW.trod_int Tryz.underlying3 t0
      obtain ⟨z1, e1, _⟩ := DataW.trod_int Tryz.underlying3 t1
      simp only [List.cons.injEq, and_true] at e0 e1
      refine ⟨?_, ?_⟩
      · show _ = some (Value.int .i64 (intOf (V0 i)))
        rw [g0, e0]
        rfl
      · show _ = some (Value.int .i64 (intOf (V1 i)))
        rw [g1, e1]
        rfl
theorem heap_of8 {H : Type} {enc : TypeId × Value → H} {w : World} {base b0 : Nat} {spare : Nat → Bool} {held : Bool} {v : Value} {d : DataW H} {p : List MemPlace} {r : Reach}
    (hv : Value.okWide Tryz.prog w r b0 28 v) (h : DataW.Trod enc Tryz.prog w base spare held 28 v d p) :
    ∃ (s : Hs) (e : Hd_), v = (.agg #[.slice s.w.a s.w.n s.w.c, .slice s.p.a s.p.n s.p.c, .slice (s.u 0).a (s.u 0).n (s.u 0).c, .slice (s.u 1).a (s.u 1).n (s.u 1).c, .slice (s.u 2).a (s.u 2).n (s.u 2).c, .slice s.c.a s.c.n s.c.c]) ∧ Hp w w.heap.size s e ∧ Fit64 e.ws ∧ s.p.n ≤ s.p.c := by
  obtain ⟨⟨l⟩, rfl, hsz⟩ := okWide_struct Tryz.underlying28 hv
  obtain ⟨fuel, hf⟩ := h
  obtain ⟨xs, k, _, hx, hl, hlen, hg⟩ := DataW.trod_struct Tryz.underlying28 hf
  have hl6 : l.length = 6 := hsz.trans (by kernel_rfl)
  match l, hl6, xs, hlen with
  | [c0, c1, c2, c3, c4, c5], _, [y0, y1, y2, y3], _ =>
    have e22 : Tryz.prog.cellsOf 22 = 1 := by kernel_rfl
    have e23 : Tryz.prog.cellsOf 23 = 1 := by kernel_rfl
    have e25 : Tryz.prog.cellsOf 25 = 3 := by kernel_rfl
    have e26 : Tryz.prog.cellsOf 26 = 1 := by kernel_rfl
    have g0 : DataW.trod enc Tryz.prog w base spare held k 22 [c0] = some y0 := by have := hg 0 _ rfl; simpa [e22, Value.cells] using this
    have g1 : DataW.trod enc Tryz.prog w base spare held k 23 [c1] = some y1 := by have := hg 1 _ rfl; simpa [e23, Value.cells] using this
    have g2 : DataW.trod enc Tryz.prog w base spare held k 25 [c2, c3, c4] = some y2 := by have := hg 2 _ rfl; simpa [e25, Value.cells] using this
    have g3 : DataW.trod enc Tryz.prog w base spare held k 26 [c5] = some y3 := by have := hg 3 _ rfl; simpa [e26, Value.cells] using this
    obtain ⟨s0, zs, h0, r0, _, f0⟩ := ints_in g0
    obtain ⟨s1, f1, h1, r1, c1'⟩ := pin_cap g1
    obtain ⟨u, F, h2, r2, _⟩ := lists_in g2
    obtain ⟨s3, f3, h3, r3⟩ := bools_in g3
    simp only [List.cons.injEq, and_true] at h0 h1 h2 h3
    obtain ⟨rfl, rfl, rfl⟩ := h2
    subst h0 h1 h3
    refine ⟨⟨s0, s1, u, s3⟩, ⟨zs, f1, F, f3⟩, rfl, ⟨r0.1, r1, r2, r3⟩, f0, c1'⟩
end Go.Proofs.YtmalopciboikhaaGreatDoor
end
section
namespace Go.Proofs.YtmalopciboikhaaGreatDoor.Ls
open Go.Proofs.YtmalopciboikhaaGreatDoor
set_option maxRecDepth 100000
open Go.RowKit

theorem ints_other {xs ys : List Int} {k : Nat} (h : ¬ xs.getD k 0 = ys.getD k 0) : decide (xs = ys) = false := by
  simp only [decide_eq_false_iff_not]
  rintro rfl
  exact h rfl
theorem ints_all {xs ys : List Int} {n : Nat} (h1 : xs.length = n) (h2 : ys.length = n) (h : ∀ j, j < n → xs.getD j 0 = ys.getD j 0) : decide (xs = ys) = true := by
  simp only [decide_eq_true_eq]
  apply List.ext_getElem (by omega)
  intro i hi hj
  have := h i (by omega)
  simpa [List.getD, hi, hj] using this
theorem ints_any (B C : Nat) (A A' : Option Addr) (n m c c' : Nat) (xs ys : List Int) (w : World) (hn : n ≤ 4000000) (hm : m ≤ 4000000) (hr : Row w B A n xs) (hs : Row w C A' m ys) :
    Calls Tryz.prog 29 #[.slice A n c, .slice A' m c'] w fun e w' => e = .returned (.bool (decide (xs = ys))) ∧ ∃ d, w' = w.drewN d := by
  by_cases hnm : n = m
  · subst hnm
    have HR := Lib.hid hr
    have HS := Lib.hid hs
    clear hr hs
    go_enter Tryz.func29, Tryz.ntmps29
    go_wp2
    go_loopw [5] (fun i wr => ∃ k d : Nat, k ≤ n ∧ i = .int .i64 k ∧ wr = w.drewN d ∧ Hid (∀ j, j < k → xs.getD j 0 = ys.getD j 0)) (fun i _ => n - (intOf i).toNat)
    case atStart => exact ⟨0, 0, Nat.zero_le _, rfl, rfl, Lib.hid fun j h => absurd h (by omega)⟩
    case round =>
      obtain ⟨k, d, hk, rfl, rfl, HE⟩ := hrel
      by_cases hlt : k < n
      · obtain ⟨b, off, rfl, _, hc⟩ := HR.out.2 (by omega)
        obtain ⟨b', off', rfl, _, hc'⟩ := HS.out.2 (by omega)
        have h1 := hc k hlt
        have h2 := hc' k hlt
        clear hc hc'
        by_cases he : xs.getD k 0 = ys.getD k 0
        · have HE2 : Hid (∀ j, j < k + 1 → xs.getD j 0 = ys.getD j 0) := Lib.hid fun j hj => by
            by_cases e : j = k
            · rw [e]; exact he
            · exact HE.out j (by omega)
          rw [← he] at h2
          clear he HE
          go_wp2
          go_quiet (fail)
          go_wp2
          go_roundw
          case rel => exact ⟨k + 1, _, by omega, by go_num, rfl, HE2⟩
          case measure => simp [intOf]; omega
        · have HO := Lib.hid (ints_other he)
          obtain ⟨x, hx⟩ : ∃ x, x = xs.getD k 0 := ⟨_, rfl⟩
          obtain ⟨y, hy⟩ : ∃ y, y = ys.getD k 0 := ⟨_, rfl⟩
          rw [← hx, ← hy] at he
          rw [← hx] at h1
          rw [← hy] at h2
          have hd : (x != y) = true := by simpa using he
          clear he hx hy HE
          go_wp2
          go_quiet (fail)
          go_wp2
          go_ret
          exact ⟨rint HO.out.symm, _, World.drewN_drewN _ _ _⟩
      · obtain rfl : k = n := by omega
        have HO := Lib.hid (ints_all HR.out.1 HS.out.1 HE.out)
        clear HE
        go_wp2
        go_ret
        exact ⟨rint HO.out.symm, _, rfl⟩
  · have hd : ((n : Int) != m) = true := by simp; omega
    have HO : Hid (decide (xs = ys) = false) := Lib.hid (by
      simp only [decide_eq_false_iff_not]
      rintro rfl
      exact hnm (hr.1.symm.trans hs.1))
    clear hr hs hnm
    go_enter Tryz.func29, Tryz.ntmps29
    go_wp2
    go_ret
    exact ⟨rint HO.out.symm, 0, rfl⟩
theorem ints_tell (B C : Nat) (A A' : Option Addr) (n m c c' : Nat) (xs ys : List Int) (w : World) (hn : n ≤ 4000000) (hm : m ≤ 4000000) (hr : Row w B A n xs) (hs : Row w C A' m ys) :
    Calls Tryz.prog 29 #[.slice A n c, .slice A' m c'] w (Tells w (decide (xs = ys))) :=
  (ints_any B C A A' n m c c' xs ys w hn hm hr hs).mono fun _ _ ⟨he, d, hd⟩ => ⟨he, by rw [hd]; exact below_drewN (Below.refl _ _) _⟩

theorem below_row_drewN {w : World} {B n : Nat} {a : Option Addr} {xs : List Int} (h : Row w B a n xs) (d : Nat) : Row (w.drewN d) B a n xs := h
/-- Whether two are the same. -/
def sameUp (f g : Nat → List Int) (k : Nat) : Prop := ∀ j, j < k → f j = g j
theorem sameUp_next {f g : Nat → List Int} {k : Nat} (h : sameUp f g k) (hk : f k = g k) : sameUp f g (k + 1) := fun j hj => by
  by_cases e : j = k
  · rw [e]; exact hk
  · exact h j (by omega)
instance (f g : Nat → List Int) (k : Nat) : Decidable (sameUp f g k) := inferInstanceAs (Decidable (∀ j, j < k → f j = g j))

set_option maxHeartbeats 1000000 in
theorem same_any (B C : Nat) (u v : Nat → Sl) (f g : Nat → List Int) (w : World) (hu : L3 w B u f) (hB : B ≤ w.heap.size) (hv : L3 w C v g) (hC : C ≤ w.heap.size) (hn : ∀ j, j < 3 → (u j).n ≤ 4000000) (hm : ∀ j, j < 3 → (v j).n ≤ 4000000) :
    Calls Tryz.prog 12 #[(.agg #[.slice (u 0).a (u 0).n (u 0).c, .slice (u 1).a (u 1).n (u 1).c, .slice (u 2).a (u 2).n (u 2).c]), (.agg #[.slice (v 0).a (v 0).n (v 0).c, .slice (v 1).a (v 1).n (v 1).c, .slice (v 2).a (v 2).n (v 2).c])] w (Tells w (decide (sameUp f g 3))) := by
  have HU := Lib.hid hu
  have HV := Lib.hid hv
  have HN := Lib.hid hn
  have HM := Lib.hid hm
  clear hu hv hn hm
  go_enter Tryz.func12, Tryz.ntmps12
  go_wp2
  have bb := two_below w (.cells #[.slice (u 0).a (u 0).n (u 0).c, .slice (u 1).a (u 1).n (u 1).c, .slice (u 2).a (u 2).n (u 2).c] 25) (.cells #[.slice (v 0).a (v 0).n (v 0).c, .slice (v 1).a (v 1).n (v 1).c, .slice (v 2).a (v 2).n (v 2).c] 25)
  have X := Lib.hid ((Box3.new w u 25).alloc (.cells #[.slice (v 0).a (v 0).n (v 0).c, .slice (v 1).a (v 1).n (v 1).c, .slice (v 2).a (v 2).n (v 2).c] 25))
  have Y := Lib.hid (Box3.new (w.alloc (.cells #[.slice (u 0).a (u 0).n (u 0).c, .slice (u 1).a (u 1).n (u 1).c, .slice (u 2).a (u 2).n (u 2).c] 25)) v 25)
  have LU := Lib.hid (HU.out.over bb hB)
  have LV := Lib.hid (HV.out.over bb hC)
  rw [World.size_alloc] at Y
  obtain ⟨w1, hw1⟩ : ∃ w1, w1 = (w.alloc (.cells #[.slice (u 0).a (u 0).n (u 0).c, .slice (u 1).a (u 1).n (u 1).c, .slice (u 2).a (u 2).n (u 2).c] 25)).alloc (.cells #[.slice (v 0).a (v 0).n (v 0).c, .slice (v 1).a (v 1).n (v 1).c, .slice (v 2).a (v 2).n (v 2).c] 25) := ⟨_, rfl⟩
  rw [← hw1] at X Y LU LV bb ⊢
  have BB := Lib.hid bb
  have hx := X.out.lt
  have hy := Y.out.lt
  clear hw1 bb HU HV
  go_loopw [5] (fun i wr => ∃ k : Nat, k ≤ 3 ∧ i = .int .i64 k ∧ Hid ((∃ d, wr = w1.drewN d) ∧ sameUp f g k)) (fun i _ => 3 - (intOf i).toNat)
  case atStart => exact ⟨0, Nat.zero_le _, rfl, Lib.hid ⟨⟨0, rfl⟩, fun j h => absurd h (by omega)⟩⟩
  case round =>
    obtain ⟨k, hk, rfl, HE⟩ := hrel
    obtain ⟨d, hd⟩ := HE.out.1
    by_cases hlt : k < 3
    · have cx := (X.out.drewN d).cell k hlt
      have cy := (Y.out.drewN d).cell k hlt
      have LU2 := Lib.hid ((LU.out.drewN d) k hlt).1
      have LV2 := Lib.hid ((LV.out.drewN d) k hlt).1
      have hx2 := (X.out.drewN d).lt
      have hy2 := (Y.out.drewN d).lt
      rw [← hd] at cx cy LU2 LV2 hx2 hy2
      replace hd := Lib.hid hd
      by_cases he : f k = g k
      · have HS := Lib.hid (sameUp_next HE.out.2 he)
        have hdec : decide (f k = g k) = true := by simpa using he
        have HI := Lib.hid (fun n : Nat => by
          have := ints_any B C (u k).a (v k).a (u k).n (v k).n (u k).c (v k).c (f k) (g k) (wr.drewN n) (HN.out k hlt) (HM.out k hlt) (below_row_drewN LU2.out n) (below_row_drewN LV2.out n)
          rw [hdec] at this
          exact this)
        clear he hdec
        go_wp2
        go_quiet ((go_at_call 29; exact Calls.quiet_of (HI.out _)))
        go_wp2
        go_roundw
        case rel => exact ⟨k + 1, by omega, by go_num, Lib.hid ⟨⟨_, by rw [hd.out]; exact World.drewN_drewN _ _ _⟩, HS.out⟩⟩
        case measure => simp [intOf]; omega
      · have hdec : decide (f k = g k) = false := by simpa using he
        have HO : Hid (decide (sameUp f g 3) = false) := Lib.hid (by
          simp only [decide_eq_false_iff_not]
          intro h
          exact he (h k hlt))
        have HI := Lib.hid (fun n : Nat => by
          have := ints_any B C (u k).a (v k).a (u k).n (v k).n (u k).c (v k).c (f k) (g k) (wr.drewN n) (HN.out k hlt) (HM.out k hlt) (below_row_drewN LU2.out n) (below_row_drewN LV2.out n)
          rw [hdec] at this
          exact this)
        clear he hdec
        go_wp2
        go_quiet ((go_at_call 29; exact Calls.quiet_of (HI.out _)))
        go_wp2
        go_ret
        exact ⟨rint HO.out.symm, by rw [hd.out]; exact below_drewN (below_drewN BB.out _) _⟩
    · obtain rfl : k = 3 := by omega
      have HO : Hid (decide (sameUp f g 3) = true) := Lib.hid (by simpa using HE.out.2)
      replace hd := Lib.hid hd
      go_wp2
      go_ret
      exact ⟨rint HO.out.symm, by rw [hd.out]; exact below_drewN BB.out _⟩
end Go.Proofs.YtmalopciboikhaaGreatDoor.Ls
end
section
namespace Go.Proofs.YtmalopciboikhaaGreatDoor.Ck
open Go.Proofs.YtmalopciboikhaaGreatDoor
open Go.RowKit
set_option maxRecDepth 100000

theorem ric_yes (A : Option Addr) (n c : Nat) (a : Int) (w : World) (hn : n ≤ 4000) (h0 : 16 ≤ a) (h1 : a < 16 + (n : Int)) :
    Calls Tryz.prog 70 #[.slice A n c, .int .i64 a] w fun e w' => e = .returned (.bool true) ∧ w = w' := by
  go_enter Tryz.func70, Tryz.ntmps70
  go_wp2
  go_ret
  exact ⟨rfl, rfl⟩
theorem ric_no (A : Option Addr) (n c : Nat) (a : Int) (w : World) (hn : n ≤ 4000) (h : ¬ (16 ≤ a ∧ a < 16 + (n : Int))) :
    Calls Tryz.prog 70 #[.slice A n c, .int .i64 a] w fun e w' => e = .returned (.bool false) ∧ w = w' := by
  by_cases h0 : a < 16
  · clear h
    go_enter Tryz.func70, Tryz.ntmps70
    go_wp2
    go_ret
    exact ⟨rfl, rfl⟩
  · have h1 : 16 + (n : Int) ≤ a := by omega
    have h2 : 16 ≤ a := by omega
    have e : decide (a < 16 + (n : Int)) = false := by simp; omega
    clear h h0
    go_enter Tryz.func70, Tryz.ntmps70
    go_wp2
    go_ret
    exact ⟨rfl, rfl⟩
section
variable (s : Hs) (d : Hd_) (w : World)
theorem rof_bad (a : Int) (hp : Hp w w.heap.size s d) (hf : Fine s d) (hm : mayB0 s d = false) : Calls Tryz.prog 24 #[(.agg #[.slice s.w.a s.w.n s.w.c, .slice s.p.a s.p.n s.p.c, .slice (s.u 0).a (s.u 0).n (s.u 0).c, .slice (s.u 1).a (s.u 1).n (s.u 1).c, .slice (s.u 2).a (s.u 2).n (s.u 2).c, .slice s.c.a s.c.n s.c.c]), .int .i64 a] w fun e w' => e = .returned (.tuple #[.int .i64 0, .int .i64 1]) ∧ Below w.heap.size w w' := by
  have HP := Lib.hid hp
  have HF := Lib.hid hf
  have HM := Lib.hid hm
  have b0 := (Below.refl w.heap.size w).alloc (Nat.le_refl _) (.cells #[.slice s.w.a s.w.n s.w.c, .slice s.p.a s.p.n s.p.c, .slice (s.u 0).a (s.u 0).n (s.u 0).c, .slice (s.u 1).a (s.u 1).n (s.u 1).c, .slice (s.u 2).a (s.u 2).n (s.u 2).c, .slice s.c.a s.c.n s.c.c] 28)
  clear hp hf hm
  go_enter Tryz.func24, Tryz.ntmps24
  go_wp2_with fail
  refine (rmay0_any s d _ (HP.out.next b0) HF.out.wn (by have := HF.out.pn; omega) HF.out.hv HF.out.len).mono ?_
  rw [HM.out]
  rintro e w1 ⟨rfl, hb1⟩
  have HB := Lib.hid (b0.trans (hb1.mono b0.size))
  clear b0 hb1
  go_wp2
  go_ret2
  exact ⟨rfl, HB.out⟩
theorem rof_none (a : Int) (hp : Hp w w.heap.size s d) (hf : Fine s d) (hm : mayB0 s d = true) (ha : ¬ (16 ≤ a ∧ a < 16 + (s.w.n : Int))) : Calls Tryz.prog 24 #[(.agg #[.slice s.w.a s.w.n s.w.c, .slice s.p.a s.p.n s.p.c, .slice (s.u 0).a (s.u 0).n (s.u 0).c, .slice (s.u 1).a (s.u 1).n (s.u 1).c, .slice (s.u 2).a (s.u 2).n (s.u 2).c, .slice s.c.a s.c.n s.c.c]), .int .i64 a] w fun e w' => e = .returned (.tuple #[.int .i64 0, .int .i64 3]) ∧ Below w.heap.size w w' := by
  have HP := Lib.hid hp
  have HF := Lib.hid hf
  have HM := Lib.hid hm
  have HI := Lib.hid (fun W => ric_no s.w.a s.w.n s.w.c a W hf.wn ha)
  have b0 := (Below.refl w.heap.size w).alloc (Nat.le_refl _) (.cells #[.slice s.w.a s.w.n s.w.c, .slice s.p.a s.p.n s.p.c, .slice (s.u 0).a (s.u 0).n (s.u 0).c, .slice (s.u 1).a (s.u 1).n (s.u 1).c, .slice (s.u 2).a (s.u 2).n (s.u 2).c, .slice s.c.a s.c.n s.c.c] 28)
  clear hp hf hm ha
  go_enter Tryz.func24, Tryz.ntmps24
  go_wp2_with fail
  refine (rmay0_any s d _ (HP.out.next b0) HF.out.wn (by have := HF.out.pn; omega) HF.out.hv HF.out.len).mono ?_
  rw [HM.out]
  rintro e w1 ⟨rfl, hb1⟩
  have HB := Lib.hid (b0.trans (hb1.mono b0.size))
  have bx := (HBox.new w s 28).next hb1
  have q0 := bx.c0
  have ql := bx.lt
  clear b0 hb1 bx
  go_wp2_with fail
  refine (HI.out w1).mono ?_
  rintro e w2 ⟨rfl, rfl⟩
  go_wp2
  go_ret2
  exact ⟨rfl, HB.out⟩
set_option maxHeartbeats 1000000 in
theorem rof_in (i k : Nat) (hp : Hp w w.heap.size s d) (hf : Fine s d) (hm : mayB0 s d = true) (hi : i < s.w.n) (hk : i / 8 = k) : Calls Tryz.prog 24 #[(.agg #[.slice s.w.a s.w.n s.w.c, .slice s.p.a s.p.n s.p.c, .slice (s.u 0).a (s.u 0).n (s.u 0).c, .slice (s.u 1).a (s.u 1).n (s.u 1).c, .slice (s.u 2).a (s.u 2).n (s.u 2).c, .slice s.c.a s.c.n s.c.c]), .int .i64 (16 + (i : Int))] w fun e w' => e = .returned (.tuple #[.int .i64 (k : Int), .int .i64 0]) ∧ Below w.heap.size w w' := by
  have HP := Lib.hid hp
  have HF := Lib.hid hf
  have HM := Lib.hid hm
  have HI := Lib.hid (fun W => ric_yes s.w.a s.w.n s.w.c (16 + (i : Int)) W hf.wn (by omega) (by omega))
  have hi4 : i ≤ 4000 := by have := hf.wn; omega
  have b0 := (Below.refl w.heap.size w).alloc (Nat.le_refl _) (.cells #[.slice s.w.a s.w.n s.w.c, .slice s.p.a s.p.n s.p.c, .slice (s.u 0).a (s.u 0).n (s.u 0).c, .slice (s.u 1).a (s.u 1).n (s.u 1).c, .slice (s.u 2).a (s.u 2).n (s.u 2).c, .slice s.c.a s.c.n s.c.c] 28)
  have HK := Lib.hid hk
  have hk2 : k ≤ 500 := by omega
  clear hp hf hm hk hi
  go_enter Tryz.func24, Tryz.ntmps24
  go_wp2_with fail
  refine (rmay0_any s d _ (HP.out.next b0) HF.out.wn (by have := HF.out.pn; omega) HF.out.hv HF.out.len).mono ?_
  rw [HM.out]
  rintro e w1 ⟨rfl, hb1⟩
  have HB := Lib.hid (b0.trans (hb1.mono b0.size))
  have bx := (HBox.new w s 28).next hb1
  have q0 := bx.c0
  have ql := bx.lt
  clear b0 hb1 bx
  go_wp2_with fail
  refine (HI.out w1).mono ?_
  rintro e w2 ⟨rfl, rfl⟩
  go_wp2
  go_loopw [7] (fun x wr => ∃ q : Nat, q ≤ k ∧ x = .int .i64 q ∧ wr = w1) (fun x _ => k - (intOf x).toNat)
  case atStart => exact ⟨0, Nat.zero_le _, rfl, by first | rfl | trivial⟩
  case round =>
    obtain ⟨q, hq, rfl, rfl⟩ := hrel
    by_cases hlt : q < k
    · have a1 : decide (24 + 8 * (q : Int) ≤ 16 + (i : Int)) = true := decide_eq_true (by have := HK.out; omega)
      go_wp2
      go_roundw
      case rel => exact ⟨q + 1, by omega, by go_num, by first | rfl | trivial⟩
      case measure => simp [intOf]; omega
    · obtain rfl : k = q := by omega
      have a1 : decide (24 + 8 * (k : Int) ≤ 16 + (i : Int)) = false := decide_eq_false (by have := HK.out; omega)
      go_wp2
      go_ret2
      exact ⟨rfl, HB.out⟩
theorem rof_any (a : Int) (hp : Hp w w.heap.size s d) (hf : Fine s d) : Calls Tryz.prog 24 #[(.agg #[.slice s.w.a s.w.n s.w.c, .slice s.p.a s.p.n s.p.c, .slice (s.u 0).a (s.u 0).n (s.u 0).c, .slice (s.u 1).a (s.u 1).n (s.u 1).c, .slice (s.u 2).a (s.u 2).n (s.u 2).c, .slice s.c.a s.c.n s.c.c]), .int .i64 a] w fun e w' => e = .returned (.tuple #[.int .i64 (ofN s d a), .int .i64 (ofE s d a)]) ∧ Below w.heap.size w w' := by
  cases hm : mayB0 s d
  · have e : ofE s d a = 1 := if_pos hm
    have e2 : ofN s d a = 0 := if_neg (by rw [e]; decide)
    rw [e, e2]
    exact rof_bad s d w a hp hf hm
  · by_cases h1 : 16 ≤ a ∧ a < 16 + (s.w.n : Int)
    · obtain ⟨i, rfl⟩ : ∃ i : Nat, a = 16 + i := ⟨(a - 16).toNat, by omega⟩
      have e : ofE s d (16 + (i : Int)) = 0 := by unfold ofE; rw [if_neg (by rw [hm]; decide), if_pos h1]
      have e2 : ofN s d (16 + (i : Int)) = ((i / 8 : Nat) : Int) := by
        unfold ofN ofK
        rw [if_pos e]
        omega
      rw [e, e2]
      exact rof_in s d w i (i / 8) hp hf hm (by omega) rfl
    · have e : ofE s d a = 3 := by unfold ofE; rw [if_neg (by rw [hm]; decide), if_neg h1]
      have e2 : ofN s d a = 0 := if_neg (by rw [e]; decide)
      rw [e, e2]
      exact rof_none s d w a hp hf hm h1
end
theorem ris_no (s : Hs) (d : Hd_) (w : World) (a n er : Int) (h0 : ¬ er = 0) (hp : Hp w w.heap.size s d) (hO : ∀ W, HNow w W s d → Calls Tryz.prog 24 #[(.agg #[.slice s.w.a s.w.n s.w.c, .slice s.p.a s.p.n s.p.c, .slice (s.u 0).a (s.u 0).n (s.u 0).c, .slice (s.u 1).a (s.u 1).n (s.u 1).c, .slice (s.u 2).a (s.u 2).n (s.u 2).c, .slice s.c.a s.c.n s.c.c]), .int .i64 a] W fun e w' => e = .returned (.tuple #[.int .i64 n, .int .i64 er]) ∧ Below W.heap.size W w') : Calls Tryz.prog 35 #[(.agg #[.slice s.w.a s.w.n s.w.c, .slice s.p.a s.p.n s.p.c, .slice (s.u 0).a (s.u 0).n (s.u 0).c, .slice (s.u 1).a (s.u 1).n (s.u 1).c, .slice (s.u 2).a (s.u 2).n (s.u 2).c, .slice s.c.a s.c.n s.c.c]), .int .i64 a] w fun e w' => e = .returned (.bool false) ∧ Below w.heap.size w w' := by
  have HP := Lib.hid hp
  have H0 := Lib.hid hO
  have d1 : (er == 0) = false := by simp [h0]
  have b0 := (Below.refl w.heap.size w).alloc (Nat.le_refl _) (.cells #[.slice s.w.a s.w.n s.w.c, .slice s.p.a s.p.n s.p.c, .slice (s.u 0).a (s.u 0).n (s.u 0).c, .slice (s.u 1).a (s.u 1).n (s.u 1).c, .slice (s.u 2).a (s.u 2).n (s.u 2).c, .slice s.c.a s.c.n s.c.c] 28)
  clear hp hO h0
  go_enter Tryz.func35, Tryz.ntmps35
  go_wp2_with fail
  refine (H0.out _ ⟨HBox.new w s 28, b0, HP.out.below b0⟩).mono ?_
  rintro e w1 ⟨rfl, hb1⟩
  have B1 := Lib.hid (b0.trans (hb1.mono b0.size))
  have bx := (HBox.new w s 28).next hb1
  have q5 := bx.c5
  have ql := bx.lt
  clear hb1 b0 bx
  go_wp2
  go_ret
  exact ⟨rfl, B1.out⟩
theorem ris_ok (s : Hs) (d : Hd_) (w : World) (a : Int) (k : Nat) (hk : k < s.c.n) (hcn : s.c.n ≤ 100000) (hp : Hp w w.heap.size s d) (hO : ∀ W, HNow w W s d → Calls Tryz.prog 24 #[(.agg #[.slice s.w.a s.w.n s.w.c, .slice s.p.a s.p.n s.p.c, .slice (s.u 0).a (s.u 0).n (s.u 0).c, .slice (s.u 1).a (s.u 1).n (s.u 1).c, .slice (s.u 2).a (s.u 2).n (s.u 2).c, .slice s.c.a s.c.n s.c.c]), .int .i64 a] W fun e w' => e = .returned (.tuple #[.int .i64 (k : Int), .int .i64 0]) ∧ Below W.heap.size W w') : Calls Tryz.prog 35 #[(.agg #[.slice s.w.a s.w.n s.w.c, .slice s.p.a s.p.n s.p.c, .slice (s.u 0).a (s.u 0).n (s.u 0).c, .slice (s.u 1).a (s.u 1).n (s.u 1).c, .slice (s.u 2).a (s.u 2).n (s.u 2).c, .slice s.c.a s.c.n s.c.c]), .int .i64 a] w fun e w' => e = .returned (.bool (d.cs k)) ∧ Below w.heap.size w w' := by
  obtain ⟨sw, sp, su, ⟨ca, cn, cc⟩⟩ := s
  dsimp only at hk hcn
  obtain ⟨b, off, e, hlt, hc⟩ := hp.cards (by show 0 < cn; omega)
  dsimp only at e
  subst e
  have HP := Lib.hid hp
  have H0 := Lib.hid hO
  have b0 := (Below.refl w.heap.size w).alloc (Nat.le_refl _) (.cells #[.slice (⟨sw, sp, su, ⟨some ⟨b, off, none⟩, cn, cc⟩⟩ : Hs).w.a (⟨sw, sp, su, ⟨some ⟨b, off, none⟩, cn, cc⟩⟩ : Hs).w.n (⟨sw, sp, su, ⟨some ⟨b, off, none⟩, cn, cc⟩⟩ : Hs).w.c, .slice (⟨sw, sp, su, ⟨some ⟨b, off, none⟩, cn, cc⟩⟩ : Hs).p.a (⟨sw, sp, su, ⟨some ⟨b, off, none⟩, cn, cc⟩⟩ : Hs).p.n (⟨sw, sp, su, ⟨some ⟨b, off, none⟩, cn, cc⟩⟩ : Hs).p.c, .slice ((⟨sw, sp, su, ⟨some ⟨b, off, none⟩, cn, cc⟩⟩ : Hs).u 0).a ((⟨sw, sp, su, ⟨some ⟨b, off, none⟩, cn, cc⟩⟩ : Hs).u 0).n ((⟨sw, sp, su, ⟨some ⟨b, off, none⟩, cn, cc⟩⟩ : Hs).u 0).c, .slice ((⟨sw, sp, su, ⟨some ⟨b, off, none⟩, cn, cc⟩⟩ : Hs).u 1).a ((⟨sw, sp, su, ⟨some ⟨b, off, none⟩, cn, cc⟩⟩ : Hs).u 1).n ((⟨sw, sp, su, ⟨some ⟨b, off, none⟩, cn, cc⟩⟩ : Hs).u 1).c, .slice ((⟨sw, sp, su, ⟨some ⟨b, off, none⟩, cn, cc⟩⟩ : Hs).u 2).a ((⟨sw, sp, su, ⟨some ⟨b, off, none⟩, cn, cc⟩⟩ : Hs).u 2).n ((⟨sw, sp, su, ⟨some ⟨b, off, none⟩, cn, cc⟩⟩ : Hs).u 2).c, .slice (⟨sw, sp, su, ⟨some ⟨b, off, none⟩, cn, cc⟩⟩ : Hs).c.a (⟨sw, sp, su, ⟨some ⟨b, off, none⟩, cn, cc⟩⟩ : Hs).c.n (⟨sw, sp, su, ⟨some ⟨b, off, none⟩, cn, cc⟩⟩ : Hs).c.c] 28)
  have hcc := hc k hk
  clear hp hO hc
  go_enter Tryz.func35, Tryz.ntmps35
  go_wp2_with fail
  refine (H0.out _ ⟨HBox.new w ⟨sw, sp, su, ⟨some ⟨b, off, none⟩, cn, cc⟩⟩ 28, b0, HP.out.below b0⟩).mono ?_
  rintro e w1 ⟨rfl, hb1⟩
  have B1 := Lib.hid (b0.trans (hb1.mono b0.size))
  have bx := (HBox.new w ⟨sw, sp, su, ⟨some ⟨b, off, none⟩, cn, cc⟩⟩ 28).next hb1
  have q5 := bx.c5
  have ql := bx.lt
  dsimp only at q5
  have kc := (B1.out.cell (p := ⟨b, off + k, none⟩) hlt).trans hcc
  have kl : b < w1.heap.size := Nat.lt_of_lt_of_le hlt B1.out.size
  clear hb1 b0 bx hcc
  go_wp2
  go_ret
  exact ⟨rfl, B1.out⟩
theorem ris_any (s : Hs) (d : Hd_) (w : World) (a : Int) (hp : Hp w w.heap.size s d) (hf : Fine s d) : Calls Tryz.prog 35 #[(.agg #[.slice s.w.a s.w.n s.w.c, .slice s.p.a s.p.n s.p.c, .slice (s.u 0).a (s.u 0).n (s.u 0).c, .slice (s.u 1).a (s.u 1).n (s.u 1).c, .slice (s.u 2).a (s.u 2).n (s.u 2).c, .slice s.c.a s.c.n s.c.c]), .int .i64 a] w fun e w' => e = .returned (.bool (isB s d a)) ∧ Below w.heap.size w w' := by
  have hO := fun (W : World) (h : HNow w W s d) => rof_any s d W a h.all hf
  unfold isB
  by_cases e : ofE s d a = 0
  · obtain ⟨h1, _, _, h4, h5⟩ := ofE_is e
    rw [e, h4] at hO
    rw [e]
    exact ris_ok s d w a (ofK a) h5 hf.cn hp hO
  · rw [decide_eq_false e, Bool.false_and]
    exact ris_no s d w a _ _ e hp hO
end Go.Proofs.YtmalopciboikhaaGreatDoor.Ck
end
section
namespace Go.Proofs.YtmalopciboikhaaGreatDoor
open Go.RowKit
set_option maxRecDepth 100000

/-- What an append to nothing leaves. -/
structure PNew (w : World) (n : Nat) (f : Nat → Int × Int) (p : Option Addr) (w' : World) : Prop where
  row : Cl.PRow w' w'.heap.size p n f
  bel : Below w.heap.size w w'
  lies : ∀ x, p = some x → w.heap.size ≤ x.block
  high : ∀ x, p = some x → x.block < w'.heap.size
structure BNew (w : World) (n : Nat) (f : Nat → Bool) (p : Option Addr) (w' : World) : Prop where
  row : BRow w' w'.heap.size p n f
  bel : Below w.heap.size w w'
  lies : ∀ x, p = some x → w.heap.size ≤ x.block
  free : ∀ x, p = some x → x = ⟨x.block, 0, none⟩ ∧ (∀ i, w'.frozen? ⟨x.block, i, none⟩ = false) ∧ x.block < w'.heap.size
theorem run_pnew {w : World} {B n c : Nat} {A : Option Addr} {f : Nat → Int × Int} (ty : TypeId) (hr : Cl.PRow w B A n f) (hn : n ≤ 1000) :
    ∃ p cp w', (Builtin.append_ #[23, 23] ty #[.slice none 0 0, .slice A n c]).run Tryz.prog w = .ok (.slice p n cp) w' ∧ PNew w n f p w' := by
  obtain ⟨i0, hi, hz0, hz1, hz2⟩ := info_parts Cl.info_page
  by_cases h0 : n = 0
  · subst h0
    have hsrc : Src Tryz.prog i0.size 23 (.slice A 0 c) 0 [] w := by
      rw [hz1]
      cases A with
      | none => exact Src.ofNil _ Tryz.underlying23 c
      | some a => exact Src.ofSlice _ Tryz.underlying23 a 0 c [] rfl (by simp) (by simp)
    exact ⟨none, 0, w, run_append_nothing w 23 23 ty 76 i0 Tryz.underlying23 hi none 0 0 (Nat.le_refl _) _ hsrc, ⟨fun h => absurd h (by omega), Below.refl _ _, (fun x hx => by cases hx), fun x hx => by cases hx⟩⟩
  · obtain ⟨b, off, rfl, _, hc⟩ := hr (by omega)
    obtain ⟨g, cap, w', hrun, r1, r2, r3, r4⟩ := run_append_lies (P := Tryz.prog) w 23 ty w.heap.size 76 i0 (.agg #[.int .i64 0, .int .i64 0]) 2 16 Tryz.underlying23 hi hz0 hz1 hz2 rfl (by decide) _ _ _ (World.ownsRow_nil w w.heap.size 76 2) ⟨b, off, none⟩ n c (Cl.pcells f n) (Cl.pcells_length f n) (by
      intro j u hj
      rw [Addr.add_lit]
      exact Cl.pcells_of hc j u hj) Cl.pcells_one (by omega) (by unfold maxLen; omega) (by omega) (Nat.le_refl _) w.heap.size rfl
    have hown : w'.ownsRow w.heap.size 76 2 (.slice (some ⟨g, 0, none⟩) n cap) n (Cl.pcells f n) := by simpa using r1
    obtain ⟨g', c', e, hm⟩ := Cl.pmine_of hown (by omega)
    simp only [Value.slice.injEq, Option.some.injEq, Addr.mk.injEq, and_true, true_and] at e
    obtain ⟨rfl, rfl⟩ := e
    refine ⟨some ⟨g, 0, none⟩, cap, w', by simpa using hrun, ⟨hm.row, (Below.refl _ _).grown r2 (Nat.le_refl _) (by intro j hj; cases hj), fun x hx => ?_, fun x hx => ?_⟩⟩
    · cases hx
      exact hm.2.1
    · cases hx
      exact hm.2.2.1
theorem run_bnew {w : World} {B n c : Nat} {A : Option Addr} {f : Nat → Bool} (ty : TypeId) (hr : BRow w B A n f) (hn : n ≤ 1000000) :
    ∃ p cp w', (Builtin.append_ #[26, 26] ty #[.slice none 0 0, .slice A n c]).run Tryz.prog w = .ok (.slice p n cp) w' ∧ BNew w n f p w' := by
  obtain ⟨i0, hi, hz0, hz1, hz2⟩ := info_parts info_boolC
  by_cases h0 : n = 0
  · subst h0
    have hsrc : Src Tryz.prog i0.size 26 (.slice A 0 c) 0 [] w := by
      rw [hz1]
      cases A with
      | none => exact Src.ofNil _ Tryz.underlying26 c
      | some a => exact Src.ofSlice _ Tryz.underlying26 a 0 c [] rfl (by simp) (by simp)
    exact ⟨none, 0, w, run_append_nothing w 26 26 ty 4 i0 Tryz.underlying26 hi none 0 0 (Nat.le_refl _) _ hsrc, ⟨fun h => absurd h (by omega), Below.refl _ _, (fun x hx => by cases hx), fun x hx => by cases hx⟩⟩
  · obtain ⟨b, off, rfl, _, hc⟩ := hr (by omega)
    obtain ⟨g, cap, w', hrun, r1, r2, r3, r4⟩ := run_append_lies (P := Tryz.prog) w 26 ty w.heap.size 4 i0 (.bool false) 1 1 Tryz.underlying26 hi hz0 hz1 hz2 rfl (by decide) _ _ _ (World.ownsRow_nil w w.heap.size 4 1) ⟨b, off, none⟩ n c (bcells f n) (by simp [bcells]) (by
      intro j u hj
      rw [Addr.add_lit]
      have hjn : j < n := by
        have := (List.getElem?_eq_some_iff.1 hj).1
        simpa [bcells] using this
      rw [bcells_at f n j hjn] at hj
      rw [← hj]
      exact hc j hjn) (by
      intro u hu
      obtain ⟨x, _, rfl⟩ := List.mem_map.1 hu
      rfl) (by omega) (by unfold maxLen; omega) (by omega) (Nat.le_refl _) w.heap.size rfl
    have hown : w'.ownsRow w.heap.size 4 1 (.slice (some ⟨g, 0, none⟩) n cap) n (bcells f n) := by simpa using r1
    obtain ⟨g', c', e, hm, hb, hl⟩ := bmade_of hown (by omega)
    simp only [Value.slice.injEq, Option.some.injEq, Addr.mk.injEq, and_true, true_and] at e
    obtain ⟨rfl, rfl⟩ := e
    refine ⟨some ⟨g, 0, none⟩, cap, w', by simpa using hrun, ⟨fun _ => ⟨g, 0, rfl, hl, fun i hi => by rw [Nat.zero_add]; exact hm i hi⟩, (Below.refl _ _).grown r2 (Nat.le_refl _) (by intro j hj; cases hj), fun x hx => ?_, fun x hx => ?_⟩⟩
    · cases hx
      exact hb
    · cases hx
      exact ⟨rfl, fun i => hown.frozenAt i, hl⟩
theorem list_pnew {w : World} {ops : Array Oper} {rest : List Oper} {o : Oper} {a : Act} {Q : Exit → Act → World → Prop} (hgd : o.guard = none) (s x : Operand)
    (ho : o.op = .call { callee := .builtin .append, args := #[s, x], argTypes := #[23, 23] }) {B n c : Nat} {A : Option Addr} {f : Nat → Int × Int}
    (hs : a.eval s = .slice none 0 0) (hx : a.eval x = .slice A n c) (hr : Cl.PRow w B A n f) (hn : n ≤ 1000)
    (hK : ∀ p cp w', PNew w n f p w' → wpList Tryz.prog ops Q rest (a.put o.dst (.slice p n cp)) w') : wpList Tryz.prog ops Q (o :: rest) a w :=
  wpList_plain hgd fun _ hK' => by
    obtain ⟨p, cp, w', hrun, h1⟩ := run_pnew (c := c) o.type hr hn
    unfold Oper.wp execOp
    simp only [ho, resolve, invoke, builtin, Sem.run_bind, Sem.run_pure, Result.andThen_ok, List.map_toArray, List.map_cons, List.map_nil, hs, hx, hrun]
    exact hK' _ _ (hK p cp w' h1)
theorem list_bnew {w : World} {ops : Array Oper} {rest : List Oper} {o : Oper} {a : Act} {Q : Exit → Act → World → Prop} (hgd : o.guard = none) (s x : Operand)
    (ho : o.op = .call { callee := .builtin .append, args := #[s, x], argTypes := #[26, 26] }) {B n c : Nat} {A : Option Addr} {f : Nat → Bool}
    (hs : a.eval s = .slice none 0 0) (hx : a.eval x = .slice A n c) (hr : BRow w B A n f) (hn : n ≤ 1000000)
    (hK : ∀ p cp w', BNew w n f p w' → wpList Tryz.prog ops Q rest (a.put o.dst (.slice p n cp)) w') : wpList Tryz.prog ops Q (o :: rest) a w :=
  wpList_plain hgd fun _ hK' => by
    obtain ⟨p, cp, w', hrun, h1⟩ := run_bnew (c := c) o.type hr hn
    unfold Oper.wp execOp
    simp only [ho, resolve, invoke, builtin, Sem.run_bind, Sem.run_pure, Result.andThen_ok, List.map_toArray, List.map_cons, List.map_nil, hs, hx, hrun]
    exact hK' _ _ (hK p cp w' h1)
/-- Two blocks alone are turned, of those that were there. -/
def Stp (x y : Nat) (w w' : World) : Prop := w.heap.size ≤ w'.heap.size ∧ ∀ k, k < w.heap.size → ¬ k = x → ¬ k = y → w'.heap[k]? = w.heap[k]?
section
variable {x y : Nat} {w w' w'' : World}
theorem Stp.trans (h : Stp x y w w') (h' : Stp x y w' w'') : Stp x y w w'' := ⟨Nat.le_trans h.1 h'.1, fun k hk h1 h2 => (h'.2 k (Nat.lt_of_lt_of_le hk h.1) h1 h2).trans (h.2 k hk h1 h2)⟩
theorem Stp.of_below (h : Below w.heap.size w w') : Stp x y w w' := ⟨h.size, fun k hk _ _ => h.block k hk⟩
theorem Stp.set (j : Nat) (v : Value) : Stp x y w (w.setCell ⟨x, j, none⟩ v) := ⟨by simp [World.setCell], fun _ _ h1 _ => Below.heap_setCell _ _ _ _ h1⟩
theorem Stp.put (v0 v1 v2 v3 v4 v5 : Value) : Stp x y w (put6 w y v0 v1 v2 v3 v4 v5) := ⟨by rw [put6_size]; exact Nat.le_refl _, fun _ _ _ h2 => put6_other _ _ _ _ _ _ _ _ h2⟩
/-- A slice lies in neither. -/
def Out2 (x y : Nat) (v : Ls.Sl) : Prop := 0 < v.n → ∀ z, v.a = some z → ¬ z.block = x ∧ ¬ z.block = y
theorem row_stp {v : Ls.Sl} {xs : List Int} (h : Row w w.heap.size v.a v.n xs) (ho : Out2 x y v) (hs : Stp x y w w') : Row w' w'.heap.size v.a v.n xs := by
  refine (row_same h fun hn z hz => ?_).more hs.1
  obtain ⟨b, off, e, hlt, _⟩ := h.2 hn
  rw [hz] at e
  cases e
  exact hs.2 _ hlt (ho hn _ hz).1 (ho hn _ hz).2
theorem prow_stp {v : Ls.Sl} {f : Nat → Int × Int} (h : Cl.PRow w w.heap.size v.a v.n f) (ho : Out2 x y v) (hs : Stp x y w w') : Cl.PRow w' w'.heap.size v.a v.n f := fun hn => by
  obtain ⟨b, off, e, hlt, hc⟩ := h hn
  have hb := hs.2 b hlt (ho hn _ e).1 (ho hn _ e).2
  exact ⟨b, off, e, Nat.lt_of_lt_of_le hlt hs.1, fun i hi => ⟨(World.cell?_of_block (a := ⟨b, off + i * 2, none⟩) hb).trans (hc i hi).1, (World.cell?_of_block (a := ⟨b, off + i * 2 + 1, none⟩) hb).trans (hc i hi).2⟩⟩
theorem brow_stp {v : Ls.Sl} {f : Nat → Bool} (h : BRow w w.heap.size v.a v.n f) (ho : Out2 x y v) (hs : Stp x y w w') : BRow w' w'.heap.size v.a v.n f := fun hn => by
  obtain ⟨b, off, e, hlt, hc⟩ := h hn
  have hb := hs.2 b hlt (ho hn _ e).1 (ho hn _ e).2
  exact ⟨b, off, e, Nat.lt_of_lt_of_le hlt hs.1, fun i hi => (World.cell?_of_block (a := ⟨b, off + i, none⟩) hb).trans (hc i hi)⟩
end
end Go.Proofs.YtmalopciboikhaaGreatDoor
end
section
namespace Go.Proofs.YtmalopciboikhaaGreatDoor
open Go.RowKit
set_option maxRecDepth 100000

theorem hbox_same {W W' : World} {b : Nat} {t : Hs} (h : HBox W b t) (hs : W'.heap[b]? = W.heap[b]?) (hl : W.heap.size ≤ W'.heap.size) : HBox W' b t :=
  ⟨(World.cell?_of_block (a := ⟨b, 0, none⟩) hs).trans h.c0, (World.cell?_of_block (a := ⟨b, 1, none⟩) hs).trans h.c1, (World.cell?_of_block (a := ⟨b, 2, none⟩) hs).trans h.c2, (World.cell?_of_block (a := ⟨b, 3, none⟩) hs).trans h.c3, (World.cell?_of_block (a := ⟨b, 4, none⟩) hs).trans h.c4, (World.cell?_of_block (a := ⟨b, 5, none⟩) hs).trans h.c5, Nat.lt_of_lt_of_le h.lt hl⟩
/-- All cells of a block hold slices. -/
def Slices (W : World) (b : Nat) : Prop := ∀ j v, W.cell? ⟨b, j, none⟩ = some v → ∃ a n c, v = .slice a n c
theorem Slices.row {W : World} {b B n : Nat} {a : Option Addr} {xs : List Int} (h : Slices W b) (hr : Row W B a n xs) : 0 < n → ∀ x, a = some x → ¬ x.block = b := fun hn x hx e => by
  obtain ⟨b', off, e', _, hc⟩ := hr.2 hn
  rw [hx] at e'
  cases e'
  subst e
  obtain ⟨_, _, _, hv⟩ := h _ _ (hc 0 hn)
  cases hv
theorem Slices.prow {W : World} {b B n : Nat} {a : Option Addr} {f : Nat → Int × Int} (h : Slices W b) (hr : Cl.PRow W B a n f) : 0 < n → ∀ x, a = some x → ¬ x.block = b := fun hn x hx e => by
  obtain ⟨b', off, e', _, hc⟩ := hr hn
  rw [hx] at e'
  cases e'
  subst e
  obtain ⟨_, _, _, hv⟩ := h _ _ (hc 0 hn).1
  cases hv
theorem Slices.brow {W : World} {b B n : Nat} {a : Option Addr} {f : Nat → Bool} (h : Slices W b) (hr : BRow W B a n f) : 0 < n → ∀ x, a = some x → ¬ x.block = b := fun hn x hx e => by
  obtain ⟨b', off, e', _, hc⟩ := hr hn
  rw [hx] at e'
  cases e'
  subst e
  obtain ⟨_, _, _, hv⟩ := h _ _ (hc 0 hn)
  cases hv
theorem Slices.same {W W' : World} {b : Nat} (h : Slices W b) (hs : W'.heap[b]? = W.heap[b]?) : Slices W' b := fun j v hv => h j v ((World.cell?_of_block (a := ⟨b, j, none⟩) hs).symm.trans hv)
theorem cell_set_none {W : World} {b j : Nat} {v : Value} (h : W.cell? ⟨b, j, none⟩ = none) : (W.setCell ⟨b, j, none⟩ v).cell? ⟨b, j, none⟩ = none := by
  unfold World.cell? at h ⊢
  unfold World.setCell
  simp only [Array.getElem?_modify, if_true]
  cases hb : W.heap[b]? with
  | none => rfl
  | some o =>
    cases o with
    | cells c e f =>
      rw [hb] at h
      simp at h
      simp [h]
    | _ => rfl
theorem Slices.set {W : World} {b k : Nat} {a : Option Addr} {n c : Nat} (h : Slices W b) : Slices (W.setCell ⟨b, k, none⟩ (.slice a n c)) b := fun j v hv => by
  by_cases e : j = k
  · subst e
    cases hc : W.cell? ⟨b, j, none⟩ with
    | none => rw [cell_set_none hc] at hv; cases hv
    | some x =>
      rw [World.cell?_setCell_same' _ _ _ (by rw [hc]; rfl)] at hv
      cases hv
      exact ⟨a, n, c, rfl⟩
  · rw [World.cell?_setCell_other _ _ _ _ (by intro hh; simp only [Addr.mk.injEq, true_and, and_true] at hh; omega)] at hv
    exact h j v hv
/-- Rows stand where another block alone is turned. -/
theorem l3_turn {W W' : World} {b : Nat} {u : Nat → Ls.Sl} {F : Nat → List Int} (hS : Slices W b) (h : Ls.L3 W W.heap.size u F) (hs : ∀ i, ¬ i = b → W'.heap[i]? = W.heap[i]?) (hl : W.heap.size = W'.heap.size) : Ls.L3 W' W'.heap.size u F := fun j hj => by
  rw [← hl]
  exact ⟨row_same (h j hj).1 fun hn x hx => hs _ (hS.row (h j hj).1 hn x hx), (h j hj).2⟩
theorem hp_turn {W W' : World} {b : Nat} {t : Hs} {d : Hd_} (hS : Slices W b) (h : Hp W W.heap.size t d) (hs : ∀ i, ¬ i = b → W'.heap[i]? = W.heap[i]?) (hl : W.heap.size = W'.heap.size) : Hp W' W'.heap.size t d := by
  refine ⟨?_, fun hn => ?_, l3_turn hS h.free hs hl, fun hn => ?_⟩
  · rw [← hl]
    exact row_same h.words fun hn x hx => hs _ (hS.row h.words hn x hx)
  · obtain ⟨b', off, e, hlt, hc⟩ := h.pages hn
    rw [← hl]
    refine ⟨b', off, e, hlt, fun i hi => ?_⟩
    have hb' := hs b' (hS.prow h.pages hn _ e)
    exact ⟨(World.cell?_of_block (a := ⟨b', off + i * 2, none⟩) hb').trans (hc i hi).1, (World.cell?_of_block (a := ⟨b', off + i * 2 + 1, none⟩) hb').trans (hc i hi).2⟩
  · obtain ⟨b', off, e, hlt, hc⟩ := h.cards hn
    rw [← hl]
    refine ⟨b', off, e, hlt, fun i hi => ?_⟩
    exact (World.cell?_of_block (a := ⟨b', off + i, none⟩) (hs b' (hS.brow h.cards hn _ e))).trans (hc i hi)
theorem set_others {W : World} {b k : Nat} {v : Value} : ∀ i, ¬ i = b → (W.setCell ⟨b, k, none⟩ v).heap[i]? = W.heap[i]? := fun _ hi => Below.heap_setCell _ _ _ _ hi
theorem set3_others {W : World} {b k0 k1 k2 : Nat} {v0 v1 v2 : Value} : ∀ i, ¬ i = b → (((W.setCell ⟨b, k0, none⟩ v0).setCell ⟨b, k1, none⟩ v1).setCell ⟨b, k2, none⟩ v2).heap[i]? = W.heap[i]? := fun i hi => ((set_others i hi).trans (set_others i hi)).trans (set_others i hi)
theorem set_size {W : World} {p : Addr} {v : Value} : (W.setCell p v).heap.size = W.heap.size := by simp [World.setCell]
theorem slices6 (w : World) (t : Hs) (ty : TypeId) : Slices (w.alloc (.cells #[.slice t.w.a t.w.n t.w.c, .slice t.p.a t.p.n t.p.c, .slice (t.u 0).a (t.u 0).n (t.u 0).c, .slice (t.u 1).a (t.u 1).n (t.u 1).c, .slice (t.u 2).a (t.u 2).n (t.u 2).c, .slice t.c.a t.c.n t.c.c] ty)) w.heap.size := fun j v hv => by
  rcases j with _ | _ | _ | _ | _ | _ | j
  · simp [go_sem] at hv; exact ⟨_, _, _, hv.symm⟩
  · simp [go_sem] at hv; exact ⟨_, _, _, hv.symm⟩
  · simp [go_sem] at hv; exact ⟨_, _, _, hv.symm⟩
  · simp [go_sem] at hv; exact ⟨_, _, _, hv.symm⟩
  · simp [go_sem] at hv; exact ⟨_, _, _, hv.symm⟩
  · simp [go_sem] at hv; exact ⟨_, _, _, hv.symm⟩
  · simp [go_sem] at hv
/-- A box of a heap, or of what is made of one. -/
structure Rm (W : World) (b : Nat) (t : Hs) : Prop where
  box : Box6 W b t
  sl : Slices W b
section
variable {w W W' : World} {b : Nat} {t t' : Hs} {d d' : Hd_}
theorem Rm.same (h : Rm W b t) (hs : W'.heap[b]? = W.heap[b]?) (hl : W.heap.size ≤ W'.heap.size) : Rm W' b t := ⟨h.box.same hs hl, h.sl.same hs⟩
theorem Rm.next (h : Rm W b t) (hb : Below W.heap.size W W') : Rm W' b t := h.same (hb.block b h.box.box.lt) hb.size
theorem Rm.new (w : World) (t : Hs) (ty : TypeId) : Rm (w.alloc (.cells #[.slice t.w.a t.w.n t.w.c, .slice t.p.a t.p.n t.p.c, .slice (t.u 0).a (t.u 0).n (t.u 0).c, .slice (t.u 1).a (t.u 1).n (t.u 1).c, .slice (t.u 2).a (t.u 2).n (t.u 2).c, .slice t.c.a t.c.n t.c.c] ty)) w.heap.size t :=
  ⟨⟨HBox.new w t ty, fun j => by simp [go_sem]⟩, slices6 w t ty⟩
theorem Rm.set (h : Rm W b t) (k : Nat) (a : Option Addr) (n c : Nat)
    (e0 : Value.slice t'.w.a t'.w.n t'.w.c = if 0 = k then .slice a n c else .slice t.w.a t.w.n t.w.c) (e1 : Value.slice t'.p.a t'.p.n t'.p.c = if 1 = k then .slice a n c else .slice t.p.a t.p.n t.p.c)
    (e2 : Value.slice (t'.u 0).a (t'.u 0).n (t'.u 0).c = if 2 = k then .slice a n c else .slice (t.u 0).a (t.u 0).n (t.u 0).c) (e3 : Value.slice (t'.u 1).a (t'.u 1).n (t'.u 1).c = if 3 = k then .slice a n c else .slice (t.u 1).a (t.u 1).n (t.u 1).c)
    (e4 : Value.slice (t'.u 2).a (t'.u 2).n (t'.u 2).c = if 4 = k then .slice a n c else .slice (t.u 2).a (t.u 2).n (t.u 2).c) (e5 : Value.slice t'.c.a t'.c.n t'.c.c = if 5 = k then .slice a n c else .slice t.c.a t.c.n t.c.c) : Rm (W.setCell ⟨b, k, none⟩ (.slice a n c)) b t' :=
  ⟨⟨⟨cell_set h.box.box.c0 e0, cell_set h.box.box.c1 e1, cell_set h.box.box.c2 e2, cell_set h.box.box.c3 e3, cell_set h.box.box.c4 e4, cell_set h.box.box.c5 e5, by simpa [World.setCell] using h.box.box.lt⟩, frozen_set h.box.free⟩, h.sl.set⟩
/-- A box, and the heap that it holds, in the midst of a call. -/
structure Ro (w W : World) (b : Nat) (t : Hs) (d : Hd_) : Prop where
  bel : Below w.heap.size w W
  hi : w.heap.size ≤ b
  rm : Rm W b t
  hp : Hp W W.heap.size t d
theorem Ro.next (h : Ro w W b t d) (hb : Below W.heap.size W W') : Ro w W' b t d := ⟨h.bel.trans (hb.mono h.bel.size), h.hi, h.rm.next hb, h.hp.next hb⟩
theorem Ro.drew (h : Ro w W b t d) : Ro w W.drew b t d := h.next (below_drawn' (Below.refl _ _) 1)
/-- The box is turned, to what lies in memory already. -/
theorem Ro.turn (h : Ro w W b t d) (hr : Rm W' b t') (hb : Below w.heap.size w W') (hs : ∀ i, ¬ i = b → W'.heap[i]? = W.heap[i]?) (hl : W.heap.size = W'.heap.size) (hp : Hp W W.heap.size t' d') : Ro w W' b t' d' :=
  ⟨hb, h.hi, hr, hp_turn h.rm.sl hp hs hl⟩
theorem Ro.words (h : Ro w W b t d) (v : Ls.Sl) (ws : List Int) (hr : Row W W.heap.size v.a v.n ws) : Ro w (W.setCell ⟨b, 0, none⟩ (.slice v.a v.n v.c)) b ⟨v, t.p, t.u, t.c⟩ ⟨ws, d.f, d.F, d.cs⟩ :=
  h.turn (h.rm.set 0 _ _ _ rfl rfl rfl rfl rfl rfl) (h.bel.setCell (p := ⟨b, 0, none⟩) h.hi _) set_others set_size.symm ⟨hr, h.hp.pages, h.hp.free, h.hp.cards⟩
theorem Ro.pages (h : Ro w W b t d) (v : Ls.Sl) (f : Nat → Int × Int) (hr : Cl.PRow W W.heap.size v.a v.n f) : Ro w (W.setCell ⟨b, 1, none⟩ (.slice v.a v.n v.c)) b ⟨t.w, v, t.u, t.c⟩ ⟨d.ws, f, d.F, d.cs⟩ :=
  h.turn (h.rm.set 1 _ _ _ rfl rfl rfl rfl rfl rfl) (h.bel.setCell (p := ⟨b, 1, none⟩) h.hi _) set_others set_size.symm ⟨h.hp.words, hr, h.hp.free, h.hp.cards⟩
theorem Ro.cards (h : Ro w W b t d) (v : Ls.Sl) (cs : Nat → Bool) (hr : BRow W W.heap.size v.a v.n cs) : Ro w (W.setCell ⟨b, 5, none⟩ (.slice v.a v.n v.c)) b ⟨t.w, t.p, t.u, v⟩ ⟨d.ws, d.f, d.F, cs⟩ :=
  h.turn (h.rm.set 5 _ _ _ rfl rfl rfl rfl rfl rfl) (h.bel.setCell (p := ⟨b, 5, none⟩) h.hi _) set_others set_size.symm ⟨h.hp.words, h.hp.pages, h.hp.free, hr⟩
def triS (a b c : Ls.Sl) : Nat → Ls.Sl := fun | 0 => a | 1 => b | _ => c
theorem Rm.free3 (h : Rm W b t) (v : Nat → Ls.Sl) : Rm (((W.setCell ⟨b, 2, none⟩ (.slice (v 0).a (v 0).n (v 0).c)).setCell ⟨b, 3, none⟩ (.slice (v 1).a (v 1).n (v 1).c)).setCell ⟨b, 4, none⟩ (.slice (v 2).a (v 2).n (v 2).c)) b ⟨t.w, t.p, v, t.c⟩ := by
  have h1 := h.set (t' := ⟨t.w, t.p, triS (v 0) (t.u 1) (t.u 2), t.c⟩) 2 (v 0).a (v 0).n (v 0).c rfl rfl rfl rfl rfl rfl
  have h2 := h1.set (t' := ⟨t.w, t.p, triS (v 0) (v 1) (t.u 2), t.c⟩) 3 (v 1).a (v 1).n (v 1).c rfl rfl rfl rfl rfl rfl
  exact h2.set (t' := ⟨t.w, t.p, v, t.c⟩) 4 (v 2).a (v 2).n (v 2).c rfl rfl rfl rfl rfl rfl
theorem Ro.free3 (h : Ro w W b t d) (v : Nat → Ls.Sl) (F : Nat → List Int) (hl : Ls.L3 W W.heap.size v F) : Ro w (((W.setCell ⟨b, 2, none⟩ (.slice (v 0).a (v 0).n (v 0).c)).setCell ⟨b, 3, none⟩ (.slice (v 1).a (v 1).n (v 1).c)).setCell ⟨b, 4, none⟩ (.slice (v 2).a (v 2).n (v 2).c)) b ⟨t.w, t.p, v, t.c⟩ ⟨d.ws, d.f, F, d.cs⟩ :=
  h.turn (h.rm.free3 v) (((h.bel.setCell (p := ⟨b, 2, none⟩) h.hi _).setCell (p := ⟨b, 3, none⟩) h.hi _).setCell (p := ⟨b, 4, none⟩) h.hi _) set3_others (by simp) ⟨h.hp.words, h.hp.pages, hl, h.hp.cards⟩
/-- A whole heap is stored into the box. -/
theorem Rm.put (h : Rm W b t) (t' : Hs) : Rm (put6 W b (.slice t'.w.a t'.w.n t'.w.c) (.slice t'.p.a t'.p.n t'.p.c) (.slice (t'.u 0).a (t'.u 0).n (t'.u 0).c) (.slice (t'.u 1).a (t'.u 1).n (t'.u 1).c) (.slice (t'.u 2).a (t'.u 2).n (t'.u 2).c) (.slice t'.c.a t'.c.n t'.c.c)) b t' := by
  have h1 := h.set (t' := ⟨t'.w, t.p, t.u, t.c⟩) 0 t'.w.a t'.w.n t'.w.c rfl rfl rfl rfl rfl rfl
  have h2 := h1.set (t' := ⟨t'.w, t'.p, t.u, t.c⟩) 1 t'.p.a t'.p.n t'.p.c rfl rfl rfl rfl rfl rfl
  have h3 := h2.free3 t'.u
  exact h3.set (t' := t') 5 t'.c.a t'.c.n t'.c.c rfl rfl rfl rfl rfl rfl
theorem Ro.put (h : Ro w W b t d) (hp : Hp W W.heap.size t' d') : Ro w (put6 W b (.slice t'.w.a t'.w.n t'.w.c) (.slice t'.p.a t'.p.n t'.p.c) (.slice (t'.u 0).a (t'.u 0).n (t'.u 0).c) (.slice (t'.u 1).a (t'.u 1).n (t'.u 1).c) (.slice (t'.u 2).a (t'.u 2).n (t'.u 2).c) (.slice t'.c.a t'.c.n t'.c.c)) b t' d' :=
  h.turn (h.rm.put t') (below_put6 h.bel h.hi _ _ _ _ _ _) (fun _ hi => put6_other _ _ _ _ _ _ _ _ hi) (put6_size _ _ _ _ _ _ _ _).symm hp
/-- The result's cell is turned: all else stands. -/
theorem Ro.res {rb : Nat} {t0 : Hs} (h : Ro w W b t d) (hr : Rm W rb t0) (hi : w.heap.size ≤ rb) (t' : Hs) : Hp (put6 W rb (.slice t'.w.a t'.w.n t'.w.c) (.slice t'.p.a t'.p.n t'.p.c) (.slice (t'.u 0).a (t'.u 0).n (t'.u 0).c) (.slice (t'.u 1).a (t'.u 1).n (t'.u 1).c) (.slice (t'.u 2).a (t'.u 2).n (t'.u 2).c) (.slice t'.c.a t'.c.n t'.c.c)) (put6 W rb (.slice t'.w.a t'.w.n t'.w.c) (.slice t'.p.a t'.p.n t'.p.c) (.slice (t'.u 0).a (t'.u 0).n (t'.u 0).c) (.slice (t'.u 1).a (t'.u 1).n (t'.u 1).c) (.slice (t'.u 2).a (t'.u 2).n (t'.u 2).c) (.slice t'.c.a t'.c.n t'.c.c)).heap.size t d ∧
    Below w.heap.size w (put6 W rb (.slice t'.w.a t'.w.n t'.w.c) (.slice t'.p.a t'.p.n t'.p.c) (.slice (t'.u 0).a (t'.u 0).n (t'.u 0).c) (.slice (t'.u 1).a (t'.u 1).n (t'.u 1).c) (.slice (t'.u 2).a (t'.u 2).n (t'.u 2).c) (.slice t'.c.a t'.c.n t'.c.c)) :=
  ⟨hp_turn hr.sl h.hp (fun _ hi => put6_other _ _ _ _ _ _ _ _ hi) (put6_size _ _ _ _ _ _ _ _).symm, below_put6 h.bel hi _ _ _ _ _ _⟩
end
end Go.Proofs.YtmalopciboikhaaGreatDoor
end
section
namespace Go.Proofs.YtmalopciboikhaaGreatDoor
open Go.RowKit
set_option maxRecDepth 100000

/-- What Own leaves. -/
def OwnOut (w : World) (s : Hs) (d : Hd_) (e : Ending) (w' : World) : Prop :=
  ∃ t : Hs, e = .returned (.agg #[.slice t.w.a t.w.n t.w.c, .slice t.p.a t.p.n t.p.c, .slice (t.u 0).a (t.u 0).n (t.u 0).c, .slice (t.u 1).a (t.u 1).n (t.u 1).c, .slice (t.u 2).a (t.u 2).n (t.u 2).c, .slice t.c.a t.c.n t.c.c]) ∧ w'.ownsRow w.heap.size 3 1 (.slice t.w.a t.w.n t.w.c) t.w.n (d.ws.map (Value.int .i64)) ∧ Hp w' w'.heap.size t d ∧ Lens s t ∧ News w.heap.size t ∧
    (∀ x, t.w.a = some x → (0 < t.p.n → ∀ z, t.p.a = some z → ¬ z.block = x.block) ∧ (∀ j, j < 3 → 0 < (t.u j).n → ∀ z, (t.u j).a = some z → ¬ z.block = x.block) ∧ (0 < t.c.n → ∀ z, t.c.a = some z → ¬ z.block = x.block)) ∧ Below w.heap.size w w'
/-- The cards are in a block of their own. -/
def OwnC (w w' : World) (t : Hs) : Prop :=
  0 < t.c.n → ∃ g, t.c.a = some ⟨g, 0, none⟩ ∧ (∀ i, w'.frozen? ⟨g, i, none⟩ = false) ∧ w.heap.size + 2 ≤ g ∧ g < w'.heap.size ∧ (∀ z, t.w.a = some z → ¬ z.block = g) ∧ (∀ z, t.p.a = some z → ¬ z.block = g) ∧ ∀ j, j < 3 → ∀ z, (t.u j).a = some z → ¬ z.block = g
/-- .. with all that is known of it. -/
def OwnFull (w : World) (s : Hs) (d : Hd_) (e : Ending) (w' : World) : Prop :=
  ∃ t : Hs, e = .returned (.agg #[.slice t.w.a t.w.n t.w.c, .slice t.p.a t.p.n t.p.c, .slice (t.u 0).a (t.u 0).n (t.u 0).c, .slice (t.u 1).a (t.u 1).n (t.u 1).c, .slice (t.u 2).a (t.u 2).n (t.u 2).c, .slice t.c.a t.c.n t.c.c]) ∧ (w'.ownsRow w.heap.size 3 1 (.slice t.w.a t.w.n t.w.c) t.w.n (d.ws.map (Value.int .i64)) ∧ Hp w' w'.heap.size t d ∧ Lens s t ∧ News w.heap.size t ∧
    (∀ x, t.w.a = some x → (0 < t.p.n → ∀ z, t.p.a = some z → ¬ z.block = x.block) ∧ (∀ j, j < 3 → 0 < (t.u j).n → ∀ z, (t.u j).a = some z → ¬ z.block = x.block) ∧ (0 < t.c.n → ∀ z, t.c.a = some z → ¬ z.block = x.block)) ∧ Below w.heap.size w w') ∧ OwnC w w' t
theorem own7_end {w W0 w1 w3 w4 w5 w6 w7 w9 : World} {s : Hs} {d : Hd_} {v : Nat → Ls.Sl} {p3 p5 p7 : Option Addr} {c3 c5 c7 : Nat} (hl0 : w.heap.size + 1 < W0.heap.size) (hb1 : Below W0.heap.size W0 w1) (ho1 : Ls.Own3 w1 W0.heap.size v d.F)
    (h3 : w3.ownsRow (w1.heap.size + 1) 3 1 (.slice p3 s.w.n c3) s.w.n (d.ws.map (Value.int .i64))) (hs3 : w1.heap.size + 1 ≤ w3.heap.size) (e4 : w4.heap.size = w3.heap.size) (h5 : PNew w4 s.p.n d.f p5 w5) (e6 : w6.heap.size = w5.heap.size) (h7 : BNew w6 s.c.n d.cs p7 w7)
    (t1 : Stp w1.heap.size (w.heap.size + 1) w1 w9) (t3 : Stp w1.heap.size (w.heap.size + 1) w3 w9) (t5 : Stp w1.heap.size (w.heap.size + 1) w5 w9) (t7 : Stp w1.heap.size (w.heap.size + 1) w7 w9) (hbel : Below w.heap.size w w9) (hun : ∀ j, j < 3 → (v j).n = (s.u j).n) :
    OwnFull w s d (.returned (.agg #[.slice (⟨⟨p3, s.w.n, c3⟩, ⟨p5, s.p.n, c5⟩, v, ⟨p7, s.c.n, c7⟩⟩ : Hs).w.a (⟨⟨p3, s.w.n, c3⟩, ⟨p5, s.p.n, c5⟩, v, ⟨p7, s.c.n, c7⟩⟩ : Hs).w.n (⟨⟨p3, s.w.n, c3⟩, ⟨p5, s.p.n, c5⟩, v, ⟨p7, s.c.n, c7⟩⟩ : Hs).w.c, .slice (⟨⟨p3, s.w.n, c3⟩, ⟨p5, s.p.n, c5⟩, v, ⟨p7, s.c.n, c7⟩⟩ : Hs).p.a (⟨⟨p3, s.w.n, c3⟩, ⟨p5, s.p.n, c5⟩, v, ⟨p7, s.c.n, c7⟩⟩ : Hs).p.n (⟨⟨p3, s.w.n, c3⟩, ⟨p5, s.p.n, c5⟩, v, ⟨p7, s.c.n, c7⟩⟩ : Hs).p.c, .slice ((⟨⟨p3, s.w.n, c3⟩, ⟨p5, s.p.n, c5⟩, v, ⟨p7, s.c.n, c7⟩⟩ : Hs).u 0).a ((⟨⟨p3, s.w.n, c3⟩, ⟨p5, s.p.n, c5⟩, v, ⟨p7, s.c.n, c7⟩⟩ : Hs).u 0).n ((⟨⟨p3, s.w.n, c3⟩, ⟨p5, s.p.n, c5⟩, v, ⟨p7, s.c.n, c7⟩⟩ : Hs).u 0).c, .slice ((⟨⟨p3, s.w.n, c3⟩, ⟨p5, s.p.n, c5⟩, v, ⟨p7, s.c.n, c7⟩⟩ : Hs).u 1).a ((⟨⟨p3, s.w.n, c3⟩, ⟨p5, s.p.n, c5⟩, v, ⟨p7, s.c.n, c7⟩⟩ : Hs).u 1).n ((⟨⟨p3, s.w.n, c3⟩, ⟨p5, s.p.n, c5⟩, v, ⟨p7, s.c.n, c7⟩⟩ : Hs).u 1).c, .slice ((⟨⟨p3, s.w.n, c3⟩, ⟨p5, s.p.n, c5⟩, v, ⟨p7, s.c.n, c7⟩⟩ : Hs).u 2).a ((⟨⟨p3, s.w.n, c3⟩, ⟨p5, s.p.n, c5⟩, v, ⟨p7, s.c.n, c7⟩⟩ : Hs).u 2).n ((⟨⟨p3, s.w.n, c3⟩, ⟨p5, s.p.n, c5⟩, v, ⟨p7, s.c.n, c7⟩⟩ : Hs).u 2).c, .slice (⟨⟨p3, s.w.n, c3⟩, ⟨p5, s.p.n, c5⟩, v, ⟨p7, s.c.n, c7⟩⟩ : Hs).c.a (⟨⟨p3, s.w.n, c3⟩, ⟨p5, s.p.n, c5⟩, v, ⟨p7, s.c.n, c7⟩⟩ : Hs).c.n (⟨⟨p3, s.w.n, c3⟩, ⟨p5, s.p.n, c5⟩, v, ⟨p7, s.c.n, c7⟩⟩ : Hs).c.c])) w9 := by
  have z1 := hb1.size
  have z5 := h5.bel.size
  obtain ⟨a3, k3, e3, hr3, _, _⟩ := Ls.owns_row h3
  simp only [Value.slice.injEq, true_and] at e3
  obtain ⟨rfl, rfl⟩ := e3
  have l3 : ∀ x, p3 = some x → w1.heap.size + 1 ≤ x.block ∧ x.block < w3.heap.size := fun x hx => h3.lt x.block (by rw [Ls.ownBlock_slice, hx]; rfl)
  have lv : ∀ j, j < 3 → ∀ x, (v j).a = some x → W0.heap.size ≤ x.block ∧ x.block < w1.heap.size := fun j hj x hx => ho1.block j hj hx
  have hv := ho1.l3
  refine ⟨⟨⟨p3, s.w.n, c3⟩, ⟨p5, s.p.n, c5⟩, v, ⟨p7, s.c.n, c7⟩⟩, rfl, ⟨?_, ⟨?_, ?_, fun j hj => ⟨?_, (hv j hj).2⟩, ?_⟩, ⟨rfl, rfl, hun, rfl⟩, ⟨fun _ x hx => by have := (l3 x hx).1; omega, fun _ x hx => by have := h5.lies x hx; omega, fun j hj _ x hx => by have := (lv j hj x hx).1; omega, fun _ x hx => by have := h7.lies x hx; omega⟩, fun x hx => ⟨fun _ z hz => ?_, fun j hj _ z hz => ?_, fun _ z hz => ?_⟩, hbel⟩, fun h0 => ?_⟩
  · have h3' : w3.ownsRow w.heap.size 3 1 (.slice p3 s.w.n c3) s.w.n (d.ws.map (Value.int .i64)) := ⟨h3.1, h3.2.imp id fun ⟨g, cap, cur, e, hg, r⟩ => ⟨g, cap, cur, e, by omega, r⟩⟩
    refine Ls.World.ownsRow.same h3' fun g hg hlt => ?_
    rw [Ls.ownBlock_slice] at hg
    cases hp3 : p3 with
    | none => rw [hp3] at hg; cases hg
    | some x =>
      rw [hp3] at hg
      simp at hg
      subst hg
      exact t3.2 _ hlt (by have := (l3 x hp3).1; omega) (by have := (l3 x hp3).1; omega)
  · exact row_stp (v := ⟨p3, s.w.n, c3⟩) hr3 (fun _ z hz => by have := (l3 z hz).1; exact ⟨by omega, by omega⟩) t3
  · exact prow_stp (v := ⟨p5, s.p.n, c5⟩) h5.row (fun _ z hz => by have := h5.lies z hz; exact ⟨by omega, by omega⟩) t5
  · exact row_stp (hv j hj).1 (fun _ z hz => by have := lv j hj z hz; exact ⟨by omega, by omega⟩) t1
  · exact brow_stp (v := ⟨p7, s.c.n, c7⟩) h7.row (fun _ z hz => by have := h7.lies z hz; exact ⟨by omega, by omega⟩) t7
  · have h1 := (l3 x hx).2
    have h2 := h5.lies z hz
    omega
  · have h1 := (l3 x hx).1
    have h2 := (lv j hj z hz).2
    omega
  · have h1 := (l3 x hx).2
    have h2 := h7.lies z hz
    omega
  · obtain ⟨g, off, e, hlt, hc⟩ := h7.row h0
    have h8 := h7.free _ e
    have h9 := h7.lies _ e
    obtain ⟨h81, h82, h83⟩ := h8
    simp only [Addr.mk.injEq, true_and, and_true] at h81
    subst h81
    dsimp only at h82 h83 h9
    have hg : w1.heap.size + 1 ≤ g := by omega
    refine ⟨g, e, fun i => (World.frozen?_of_block (a := ⟨g, i, none⟩) (t7.2 g h83 (by omega) (by omega))).trans (h82 i), by omega, by have := t7.1; omega, fun z hz => ?_, fun z hz => ?_, fun j hj z hz => ?_⟩
    · have := (l3 z hz).2
      omega
    · have h1 := h5.lies z hz
      have h2 := h5.high z hz
      omega
    · have := (lv j hj z hz).2
      omega
/-- What a walk through Own has in memory. -/
structure Ow (w W : World) (bo : Nat) (s t : Hs) : Prop where
  bel : Below w.heap.size w W
  hb : HBox W w.heap.size s
  rb : Box6 W (w.heap.size + 1) noHs
  ob : Box6 W bo t
  lo : w.heap.size + 2 ≤ bo
theorem Ow.next {w W W' : World} {bo : Nat} {s t : Hs} (h : Ow w W bo s t) (hb : Below W.heap.size W W') : Ow w W' bo s t := ⟨h.bel.trans (hb.mono h.bel.size), h.hb.next hb, h.rb.next hb, h.ob.next hb, h.lo⟩
theorem Ow.set {w W : World} {bo : Nat} {s t t' : Hs} (h : Ow w W bo s t) (k : Nat) (x : Value)
    (e0 : Value.slice t'.w.a t'.w.n t'.w.c = if 0 = k then x else .slice t.w.a t.w.n t.w.c) (e1 : Value.slice t'.p.a t'.p.n t'.p.c = if 1 = k then x else .slice t.p.a t.p.n t.p.c)
    (e2 : Value.slice (t'.u 0).a (t'.u 0).n (t'.u 0).c = if 2 = k then x else .slice (t.u 0).a (t.u 0).n (t.u 0).c) (e3 : Value.slice (t'.u 1).a (t'.u 1).n (t'.u 1).c = if 3 = k then x else .slice (t.u 1).a (t.u 1).n (t.u 1).c)
    (e4 : Value.slice (t'.u 2).a (t'.u 2).n (t'.u 2).c = if 4 = k then x else .slice (t.u 2).a (t.u 2).n (t.u 2).c) (e5 : Value.slice t'.c.a t'.c.n t'.c.c = if 5 = k then x else .slice t.c.a t.c.n t.c.c) : Ow w (W.setCell ⟨bo, k, none⟩ x) bo s t' := by
  have hsz : W.heap.size = (W.setCell ⟨bo, k, none⟩ x).heap.size := by simp [World.setCell]
  have hoth : ∀ j, ¬ j = bo → (W.setCell ⟨bo, k, none⟩ x).heap[j]? = W.heap[j]? := fun j hj => Below.heap_setCell _ _ _ _ hj
  have hlo := h.lo
  have hB : Box6 W bo t := h.ob
  exact ⟨h.bel.setCell (p := ⟨bo, k, none⟩) (by show w.heap.size ≤ bo; omega) _, hbox_same h.hb (hoth _ (by omega)) (Nat.le_of_eq hsz), h.rb.same (hoth _ (by omega)) (Nat.le_of_eq hsz),
    ⟨⟨cell_set hB.box.c0 e0, cell_set hB.box.c1 e1, cell_set hB.box.c2 e2, cell_set hB.box.c3 e3, cell_set hB.box.c4 e4, cell_set hB.box.c5 e5, by rw [← hsz]; exact hB.box.lt⟩, frozen_set hB.free⟩, hlo⟩
theorem res_own {W : World} {b : Nat} {tm : Array Value} {v0 v1 v2 v3 v4 v5 : Value} (ht : tm[2]? = some (.pointer (some ⟨b, 0, none⟩))) (k0 : W.cell? ⟨b, 0, none⟩ = some v0) (k1 : W.cell? ⟨b, 1, none⟩ = some v1) (k2 : W.cell? ⟨b, 2, none⟩ = some v2) (k3 : W.cell? ⟨b, 3, none⟩ = some v3) (k4 : W.cell? ⟨b, 4, none⟩ = some v4) (k5 : W.cell? ⟨b, 5, none⟩ = some v5) :
    (results Tryz.f8 tm).run Tryz.prog W = .ok (.agg #[v0, v1, v2, v3, v4, v5]) W := by
  simp [results, Tryz.results8, go_sem, ht, k0, k1, k2, k3, k4, k5]
set_option maxHeartbeats 2000000 in
theorem rown7_full (s : Hs) (d : Hd_) (w : World) (hp : Hp w w.heap.size s d) (hwn : s.w.n ≤ 4000) (hpn : s.p.n ≤ 1000) (hcn : s.c.n ≤ 100000) (hun : ∀ j, j < 3 → (s.u j).n ≤ 2000000) : Calls Tryz.prog 8 #[(.agg #[.slice s.w.a s.w.n s.w.c, .slice s.p.a s.p.n s.p.c, .slice (s.u 0).a (s.u 0).n (s.u 0).c, .slice (s.u 1).a (s.u 1).n (s.u 1).c, .slice (s.u 2).a (s.u 2).n (s.u 2).c, .slice s.c.a s.c.n s.c.c])] w (OwnFull w s d) := by
  have HP := Lib.hid hp
  have HUN := Lib.hid hun
  clear hp hun
  go_enter Tryz.func8, Tryz.ntmps8
  go_wp2_with fail
  obtain ⟨W0, hW0⟩ : ∃ W0, W0 = (w.alloc (.cells #[.slice s.w.a s.w.n s.w.c, .slice s.p.a s.p.n s.p.c, .slice (s.u 0).a (s.u 0).n (s.u 0).c, .slice (s.u 1).a (s.u 1).n (s.u 1).c, .slice (s.u 2).a (s.u 2).n (s.u 2).c, .slice s.c.a s.c.n s.c.c] 28)).alloc (.cells #[.slice none 0 0, .slice none 0 0, .slice none 0 0, .slice none 0 0, .slice none 0 0, .slice none 0 0] 28) := ⟨_, rfl⟩
  have K0 := Lib.hid (cp_start HP.out hW0)
  rw [← hW0]
  clear hW0
  have hl0 : w.heap.size + 1 < W0.heap.size := K0.out.res.box.lt
  refine (Ls.rown_any W0.heap.size s.u d.F W0 K0.out.hp.free (Nat.le_refl _) HUN.out).mono ?_
  rintro e9 w1 ⟨v, rfl, ho1, hb1⟩
  have O1 := Lib.hid (And.intro ho1 hb1)
  have hs1 := hb1.size
  have bOB := HBox.new w1 ⟨⟨none, 0, 0⟩, ⟨none, 0, 0⟩, v, ⟨none, 0, 0⟩⟩ 28
  have fOB : ∀ j, (w1.alloc (.cells #[.slice none 0 0, .slice none 0 0, .slice (v 0).a (v 0).n (v 0).c, .slice (v 1).a (v 1).n (v 1).c, .slice (v 2).a (v 2).n (v 2).c, .slice none 0 0] 28)).frozen? ⟨w1.heap.size, j, none⟩ = false := fun j => by simp [go_sem]
  have b2 := (Below.refl w1.heap.size w1).alloc (Nat.le_refl _) (.cells #[.slice none 0 0, .slice none 0 0, .slice (v 0).a (v 0).n (v 0).c, .slice (v 1).a (v 1).n (v 1).c, .slice (v 2).a (v 2).n (v 2).c, .slice none 0 0] 28)
  have K1 := K0.out.next hb1
  have K2 : Hid (Ow w (w1.alloc (.cells #[.slice none 0 0, .slice none 0 0, .slice (v 0).a (v 0).n (v 0).c, .slice (v 1).a (v 1).n (v 1).c, .slice (v 2).a (v 2).n (v 2).c, .slice none 0 0] 28)) w1.heap.size s ⟨⟨none, 0, 0⟩, ⟨none, 0, 0⟩, v, ⟨none, 0, 0⟩⟩) := Lib.hid ⟨(K1.next b2).bel, (K1.next b2).box.box, (K1.next b2).res, ⟨bOB, fOB⟩, by omega⟩
  clear ho1 hb1 bOB fOB b2 K1 K0
  have q0 := K2.out.hb.c0
  have ql := K2.out.hb.lt
  go_wp2_with (at_builtin; refine Ls.list_cat rfl (.tmp 9) (.tmp 11) rfl rfl rfl (xs := []) (base := w1.heap.size + 1) (World.ownsRow_nil _ _ _ _) (HP.out.words.below K2.out.bel) (by simp) (by omega) ?_)
  intro p3 c3 w3 hcat
  have h3 : w3.ownsRow (w1.heap.size + 1) 3 1 (.slice p3 s.w.n c3) s.w.n (d.ws.map (Value.int .i64)) := by simpa using hcat.own
  have b3 : Below (w1.alloc (.cells #[.slice none 0 0, .slice none 0 0, .slice (v 0).a (v 0).n (v 0).c, .slice (v 1).a (v 1).n (v 1).c, .slice (v 2).a (v 2).n (v 2).c, .slice none 0 0] 28)).heap.size (w1.alloc (.cells #[.slice none 0 0, .slice none 0 0, .slice (v 0).a (v 0).n (v 0).c, .slice (v 1).a (v 1).n (v 1).c, .slice (v 2).a (v 2).n (v 2).c, .slice none 0 0] 28)) w3 := (Below.refl _ _).grown hcat.grown (Nat.le_refl _) (by intro j hj; cases hj)
  have K3 := Lib.hid (K2.out.next b3)
  have K4 := Lib.hid (K3.out.set (t' := ⟨⟨p3, s.w.n, c3⟩, ⟨none, 0, 0⟩, v, ⟨none, 0, 0⟩⟩) 0 (.slice p3 s.w.n c3) rfl rfl rfl rfl rfl rfl)
  have T3 := Lib.hid (And.intro h3 b3)
  clear hcat h3 b3 q0 ql
  have x0 := K3.out.ob.box.c0
  have x1 := K3.out.ob.box.c1
  have xf := K3.out.ob.free 0
  have xl := K3.out.ob.box.lt
  have q1 := K3.out.hb.c1
  have ql := K3.out.hb.lt
  dsimp only at x0 x1
  go_wp2_with (at_builtin; refine list_pnew rfl (.tmp 15) (.tmp 17) rfl rfl rfl (HP.out.pages.below K4.out.bel) hpn ?_)
  intro p5 c5 w5 h5
  have K5 := Lib.hid (K4.out.next h5.bel)
  have K6 := Lib.hid (K5.out.set (t' := ⟨⟨p3, s.w.n, c3⟩, ⟨p5, s.p.n, c5⟩, v, ⟨none, 0, 0⟩⟩) 1 (.slice p5 s.p.n c5) rfl rfl rfl rfl rfl rfl)
  have T5 := Lib.hid h5
  clear h5 x0 x1 xf xl q1 ql
  have x1 := K5.out.ob.box.c1
  have x5 := K5.out.ob.box.c5
  have xf := K5.out.ob.free 1
  have xl := K5.out.ob.box.lt
  have q5 := K5.out.hb.c5
  have ql := K5.out.hb.lt
  dsimp only at x1 x5
  go_wp2_with (at_builtin; refine list_bnew rfl (.tmp 21) (.tmp 23) rfl rfl rfl (HP.out.cards.below K6.out.bel) (by omega) ?_)
  intro p7 c7 w7 h7
  have K7 := Lib.hid (K6.out.next h7.bel)
  have K8 := Lib.hid (K7.out.set (t' := ⟨⟨p3, s.w.n, c3⟩, ⟨p5, s.p.n, c5⟩, v, ⟨p7, s.c.n, c7⟩⟩) 5 (.slice p7 s.c.n c7) rfl rfl rfl rfl rfl rfl)
  have T7 := Lib.hid h7
  clear h7 x1 x5 xf xl q5 ql
  have x0 := K7.out.ob.box.c0
  have x1 := K7.out.ob.box.c1
  have x2 := K7.out.ob.box.c2
  have x3 := K7.out.ob.box.c3
  have x4 := K7.out.ob.box.c4
  have x5 := K7.out.ob.box.c5
  have xf := K7.out.ob.free 5
  have xl := K7.out.ob.box.lt
  have y0 := K7.out.rb.box.c0
  have y1 := K7.out.rb.box.c1
  have y2 := K7.out.rb.box.c2
  have y3 := K7.out.rb.box.c3
  have y4 := K7.out.rb.box.c4
  have y5 := K7.out.rb.box.c5
  have yl := K7.out.rb.box.lt
  have f0 := K7.out.rb.free 0
  have f1 := K7.out.rb.free 1
  have f2 := K7.out.rb.free 2
  have f3 := K7.out.rb.free 3
  have f4 := K7.out.rb.free 4
  have f5 := K7.out.rb.free 5
  have hne : ¬ w.heap.size + 1 = w1.heap.size := by omega
  dsimp only [noHs, Ls.noSl] at x0 x1 x2 x3 x4 x5 y0 y1 y2 y3 y4 y5
  go_wp2
  have st := fun (a b : World) (h : Below a.heap.size a b) => (Stp.of_below (x := w1.heap.size) (y := w.heap.size + 1) h)
  have t7 : Stp w1.heap.size (w.heap.size + 1) w7 (put6 (w7.setCell ⟨w1.heap.size, 5, none⟩ (.slice p7 s.c.n c7)) (w.heap.size + 1) (.slice p3 s.w.n c3) (.slice p5 s.p.n c5) (.slice (v 0).a (v 0).n (v 0).c) (.slice (v 1).a (v 1).n (v 1).c) (.slice (v 2).a (v 2).n (v 2).c) (.slice p7 s.c.n c7)) := (Stp.set 5 _).trans (Stp.put _ _ _ _ _ _)
  have t5 := (Stp.set (x := w1.heap.size) (y := w.heap.size + 1) (w := w5) 1 (.slice p5 s.p.n c5)).trans ((st _ _ T7.out.bel).trans t7)
  have t3 := (Stp.set (x := w1.heap.size) (y := w.heap.size + 1) (w := w3) 0 (.slice p3 s.w.n c3)).trans ((st _ _ T5.out.bel).trans t5)
  have t1 := (st _ _ ((Below.refl w1.heap.size w1).alloc (Nat.le_refl _) (.cells #[.slice none 0 0, .slice none 0 0, .slice (v 0).a (v 0).n (v 0).c, .slice (v 1).a (v 1).n (v 1).c, .slice (v 2).a (v 2).n (v 2).c, .slice none 0 0] 28))).trans ((st _ _ T3.out.2).trans t3)
  refine bodyPost_ret (v := (.agg #[.slice (⟨⟨p3, s.w.n, c3⟩, ⟨p5, s.p.n, c5⟩, v, ⟨p7, s.c.n, c7⟩⟩ : Hs).w.a (⟨⟨p3, s.w.n, c3⟩, ⟨p5, s.p.n, c5⟩, v, ⟨p7, s.c.n, c7⟩⟩ : Hs).w.n (⟨⟨p3, s.w.n, c3⟩, ⟨p5, s.p.n, c5⟩, v, ⟨p7, s.c.n, c7⟩⟩ : Hs).w.c, .slice (⟨⟨p3, s.w.n, c3⟩, ⟨p5, s.p.n, c5⟩, v, ⟨p7, s.c.n, c7⟩⟩ : Hs).p.a (⟨⟨p3, s.w.n, c3⟩, ⟨p5, s.p.n, c5⟩, v, ⟨p7, s.c.n, c7⟩⟩ : Hs).p.n (⟨⟨p3, s.w.n, c3⟩, ⟨p5, s.p.n, c5⟩, v, ⟨p7, s.c.n, c7⟩⟩ : Hs).p.c, .slice ((⟨⟨p3, s.w.n, c3⟩, ⟨p5, s.p.n, c5⟩, v, ⟨p7, s.c.n, c7⟩⟩ : Hs).u 0).a ((⟨⟨p3, s.w.n, c3⟩, ⟨p5, s.p.n, c5⟩, v, ⟨p7, s.c.n, c7⟩⟩ : Hs).u 0).n ((⟨⟨p3, s.w.n, c3⟩, ⟨p5, s.p.n, c5⟩, v, ⟨p7, s.c.n, c7⟩⟩ : Hs).u 0).c, .slice ((⟨⟨p3, s.w.n, c3⟩, ⟨p5, s.p.n, c5⟩, v, ⟨p7, s.c.n, c7⟩⟩ : Hs).u 1).a ((⟨⟨p3, s.w.n, c3⟩, ⟨p5, s.p.n, c5⟩, v, ⟨p7, s.c.n, c7⟩⟩ : Hs).u 1).n ((⟨⟨p3, s.w.n, c3⟩, ⟨p5, s.p.n, c5⟩, v, ⟨p7, s.c.n, c7⟩⟩ : Hs).u 1).c, .slice ((⟨⟨p3, s.w.n, c3⟩, ⟨p5, s.p.n, c5⟩, v, ⟨p7, s.c.n, c7⟩⟩ : Hs).u 2).a ((⟨⟨p3, s.w.n, c3⟩, ⟨p5, s.p.n, c5⟩, v, ⟨p7, s.c.n, c7⟩⟩ : Hs).u 2).n ((⟨⟨p3, s.w.n, c3⟩, ⟨p5, s.p.n, c5⟩, v, ⟨p7, s.c.n, c7⟩⟩ : Hs).u 2).c, .slice (⟨⟨p3, s.w.n, c3⟩, ⟨p5, s.p.n, c5⟩, v, ⟨p7, s.c.n, c7⟩⟩ : Hs).c.a (⟨⟨p3, s.w.n, c3⟩, ⟨p5, s.p.n, c5⟩, v, ⟨p7, s.c.n, c7⟩⟩ : Hs).c.n (⟨⟨p3, s.w.n, c3⟩, ⟨p5, s.p.n, c5⟩, v, ⟨p7, s.c.n, c7⟩⟩ : Hs).c.c])) ?_ rfl (own7_end hl0 O1.out.2 O1.out.1 T3.out.1 (by have := T3.out.2.size; simpa using this) (by simp [World.setCell]) T5.out (by simp [World.setCell]) T7.out t1 t3 t5 t7 (below_put6 K8.out.bel (by omega) _ _ _ _ _ _) (fun j hj => by have h1 := O1.out.1.l3.len j hj; have h2 := HP.out.free.len j hj; omega))
  obtain ⟨k0, k1, k2, k3, k4, k5⟩ := put6_at K8.out.rb (.slice p3 s.w.n c3) (.slice p5 s.p.n c5) (.slice (v 0).a (v 0).n (v 0).c) (.slice (v 1).a (v 1).n (v 1).c) (.slice (v 2).a (v 2).n (v 2).c) (.slice p7 s.c.n c7)
  exact res_own rfl k0 k1 k2 k3 k4 k5
theorem rown7_any (s : Hs) (d : Hd_) (w : World) (hp : Hp w w.heap.size s d) (hwn : s.w.n ≤ 4000) (hpn : s.p.n ≤ 1000) (hcn : s.c.n ≤ 100000) (hun : ∀ j, j < 3 → (s.u j).n ≤ 2000000) : Calls Tryz.prog 8 #[(.agg #[.slice s.w.a s.w.n s.w.c, .slice s.p.a s.p.n s.p.c, .slice (s.u 0).a (s.u 0).n (s.u 0).c, .slice (s.u 1).a (s.u 1).n (s.u 1).c, .slice (s.u 2).a (s.u 2).n (s.u 2).c, .slice s.c.a s.c.n s.c.c])] w (OwnOut w s d) :=
  (rown7_full s d w hp hwn hpn hcn hun).mono fun _ _ ⟨t, h1, h2, _⟩ => ⟨t, h1, h2⟩
end Go.Proofs.YtmalopciboikhaaGreatDoor
end
