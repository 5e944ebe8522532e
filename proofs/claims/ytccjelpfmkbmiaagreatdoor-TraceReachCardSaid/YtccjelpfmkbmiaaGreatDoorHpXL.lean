/-
  Merged texts: HpUsedR, HaG, HaG2.
-/
import Derived.Test.YtccjelpfmkbmiaaGreatDoorHpXG
import Derived.Test.YtccjelpfmkbmiaaGreatDoorHpXI
section
namespace Go.Proofs.YtccjelpfmkbmiaaGreatDoor
open Go.RowKit
set_option maxRecDepth 100000
attribute [local go_sem ↓] Go.wp_at_zero Go.wp_at_succ

def nzF (d : Hd_) (pre : List Int) : List Int := pre.filter fun a => decide (¬ wd d a = 0)
theorem nz_used {d : Hd_} {xs : List Int} (h : ∀ a ∈ xs, Hd.isWord (wd d a) = true) : nzF d xs = usedF d xs := by
  unfold nzF usedF
  refine List.filter_congr fun a ha => ?_
  rw [decide_eq_decide]
  constructor
  · intro h0
    exact Classical.byContradiction fun h1 => h0 (Hd.isWord_even (h a ha) h1)
  · intro h1 h0
    rw [h0] at h1
    exact absurd h1 (by decide)
theorem own_less {w : World} {b b' n : Nat} {v : Value} {xs : List Value} (h : w.ownsRow b 3 1 v n xs) (hb : b' ≤ b) : w.ownsRow b' 3 1 v n xs :=
  ⟨h.1, h.2.imp id fun ⟨g, cap, cur, e, hg, r⟩ => ⟨g, cap, cur, e, Nat.le_trans hb hg, r⟩⟩
theorem nz_next {d : Hd_} {xs : List Int} {q : Nat} (hq : q < xs.length) : nzF d (xs.take (q + 1)) = if wd d (xs.getD q 0) = 0 then nzF d (xs.take q) else nzF d (xs.take q) ++ [xs.getD q 0] := by
  rw [← prefix_next hq]
  unfold nzF
  rw [List.filter_append]
  generalize xs.getD q 0 = y
  split
  · next h => simp [h]
  · next h => simp [h]
section
variable (s : Hs) (d : Hd_) (w : World)
theorem rused_no (hp : Hp w w.heap.size s d) (hf : Fine s d) (hm : mayB0 s d = false) : Calls Tryz.prog 31 #[(.agg #[.slice s.w.a s.w.n s.w.c, .slice s.p.a s.p.n s.p.c, .slice (s.u 0).a (s.u 0).n (s.u 0).c, .slice (s.u 1).a (s.u 1).n (s.u 1).c, .slice (s.u 2).a (s.u 2).n (s.u 2).c, .slice s.c.a s.c.n s.c.c])] w (Ls.AllOut w []) := by
  have HP := Lib.hid hp
  have HF := Lib.hid hf
  have HM := Lib.hid hm
  have hb0 := (Below.refl w.heap.size w).alloc (Nat.le_refl _) (.cells #[.slice s.w.a s.w.n s.w.c, .slice s.p.a s.p.n s.p.c, .slice (s.u 0).a (s.u 0).n (s.u 0).c, .slice (s.u 1).a (s.u 1).n (s.u 1).c, .slice (s.u 2).a (s.u 2).n (s.u 2).c, .slice s.c.a s.c.n s.c.c] 28)
  clear hp hf hm
  go_enter Tryz.func31, Tryz.ntmps31
  go_wp2_with fail
  refine (rmay0_any s d _ (HP.out.next hb0) HF.out.wn (by have := HF.out.pn; omega) HF.out.hv HF.out.len).mono ?_
  rw [HM.out]
  rintro e w1 ⟨rfl, hb1⟩
  have bx1 := (HBox.new w s 28).next hb1
  have N1 := Lib.hid (HNow.mk (d := d) bx1 (hb0.trans (hb1.mono hb0.size)) (HP.out.below (hb0.trans (hb1.mono hb0.size))))
  have q1 := bx1.c1
  have ql := bx1.lt
  clear hb0 hb1 bx1
  go_wp2_with fail
  refine (Cl.rall_any w.heap.size s.p.a s.p.n s.p.c d.f _ (by have := HF.out.pn; omega) N1.out.hp.pages N1.out.bel.size).mono ?_
  rintro r w2 ⟨la, lc, rfl, hrow, _, _, hb2⟩
  have B2 := Lib.hid (N1.out.next hb2).bel
  have hl := allS_len d.f s.p.n
  obtain ⟨n, hn⟩ : ∃ n, (Cl.allS d.f s.p.n).length = n := ⟨_, rfl⟩
  rw [hn] at hl ⊢
  clear hrow hb2 q1 ql hn
  go_wp2
  go_loopw [3, 6] (fun o i wr => o = .slice none 0 0 ∧ i = .int .i64 0 ∧ wr = w2) (fun _ _ _ => 0)
  case atStart => exact ⟨rfl, rfl, rfl⟩
  case round =>
    obtain ⟨rfl, rfl, rfl⟩ := hrel
    by_cases h0 : 0 < n
    · have d0 : decide ((0 : Int) < n) = true := by simp; omega
      go_wp2
      go_ret
      exact ⟨⟨none, 0, 0⟩, rfl, World.ownsRow_nil _ _ _ _, B2.out⟩
    · have d0 : decide ((0 : Int) < n) = false := by simp; omega
      go_wp2
      go_ret
      exact ⟨⟨none, 0, 0⟩, rfl, World.ownsRow_nil _ _ _ _, B2.out⟩
set_option maxHeartbeats 1000000 in
theorem rused_core (xs : List Int) (hxe : Cl.allS d.f s.p.n = xs) (hp : Hp w w.heap.size s d) (hf : Fine s d) (hm : mayB0 s d = true) : Calls Tryz.prog 31 #[(.agg #[.slice s.w.a s.w.n s.w.c, .slice s.p.a s.p.n s.p.c, .slice (s.u 0).a (s.u 0).n (s.u 0).c, .slice (s.u 1).a (s.u 1).n (s.u 1).c, .slice (s.u 2).a (s.u 2).n (s.u 2).c, .slice s.c.a s.c.n s.c.c])] w (Ls.AllOut w (nzF d xs)) := by
  have hall := Cl.rall_any w.heap.size s.p.a s.p.n s.p.c d.f
  have hl := allS_len d.f s.p.n
  have hin := fun a (h : a ∈ Cl.allS d.f s.p.n) => allS_in h
  rw [hxe] at hall hl hin
  have HALL := Lib.hid hall
  have HIN := Lib.hid hin
  clear hall hin hxe
  have hfb := (mayH_all hm).1
  unfold firstB at hfb
  simp only [Bool.and_eq_true, decide_eq_true_eq] at hfb
  obtain ⟨-, hpm, hw, -⟩ := hfb
  have hpn0 : 0 < s.p.n := by have := ((Cl.mayB_iff _ _).1 hpm).1; omega
  have hpn : s.p.n ≤ 64 := ((Cl.mayB_iff _ _).1 hpm).2.1
  rcases s with ⟨⟨aw, nw, cw⟩, sp, su, sc⟩
  obtain ⟨bw, ow, rfl, hbw, hcw⟩ := hp.words.2 (show 0 < nw by dsimp only at hw hpn0; omega)
  dsimp only at hw hpn hpn0 hcw HALL HIN ⊢
  have HP := Lib.hid hp
  have HF := Lib.hid hf
  have HM := Lib.hid hm
  have HCW := Lib.hid hcw
  have HW := Lib.hid hw
  have hb0 := (Below.refl w.heap.size w).alloc (Nat.le_refl _) (.cells #[.slice (some ⟨bw, ow, none⟩) nw cw, .slice sp.a sp.n sp.c, .slice (su 0).a (su 0).n (su 0).c, .slice (su 1).a (su 1).n (su 1).c, .slice (su 2).a (su 2).n (su 2).c, .slice sc.a sc.n sc.c] 28)
  clear hp hf hm hcw hw hpm
  go_enter Tryz.func31, Tryz.ntmps31
  go_wp2_with fail
  refine (rmay0_any ⟨⟨some ⟨bw, ow, none⟩, nw, cw⟩, sp, su, sc⟩ d _ (HP.out.next hb0) HF.out.wn (by have := HF.out.pn; omega) HF.out.hv HF.out.len).mono ?_
  rw [HM.out]
  rintro e w1 ⟨rfl, hb1⟩
  have bx1 := (HBox.new w ⟨⟨some ⟨bw, ow, none⟩, nw, cw⟩, sp, su, sc⟩ 28).next hb1
  have N1 := Lib.hid (HNow.mk (d := d) bx1 (hb0.trans (hb1.mono hb0.size)) (HP.out.below (hb0.trans (hb1.mono hb0.size))))
  have q1 := bx1.c1
  have ql := bx1.lt
  clear hb0 hb1 bx1
  go_wp2_with fail
  refine (HALL.out _ (by omega) N1.out.hp.pages N1.out.bel.size).mono ?_
  rintro r w2 ⟨la, lc, rfl, hrow, _, _, hb2⟩
  have N2 := Lib.hid (N1.out.next hb2)
  obtain ⟨n, hn⟩ : ∃ n, xs.length = n := ⟨_, rfl⟩
  have HN := Lib.hid hn
  rw [hn] at hrow hl ⊢
  have HR := Lib.hid hrow
  clear hrow hb2 q1 ql N1 hn
  go_wp2
  go_loopw [3, 6] (fun o i wr => ∃ (v : Ls.Sl) (q : Nat), q ≤ n ∧ o = .slice v.a v.n v.c ∧ i = .int .i64 q ∧ Hid (Ls.Alling w2 wr v (nzF d (xs.take q)))) (fun _ i _ => n - (intOf i).toNat)
  case atStart => exact ⟨⟨none, 0, 0⟩, 0, Nat.zero_le _, rfl, rfl, Lib.hid ⟨World.ownsRow_nil _ _ _ _, Below.refl _ _⟩⟩
  case round =>
    obtain ⟨v, q, hq, rfl, rfl, HA⟩ := hrel
    by_cases hlt : q < n
    · have NN := HN.out
      obtain ⟨b, off, rfl, hbl, hcell⟩ := (HR.out.below HA.out.bel).2 (by omega)
      have hq1 := hcell q hlt
      obtain ⟨y, hy⟩ : ∃ y, y = xs.getD q 0 := ⟨_, rfl⟩
      rw [← hy] at hq1
      have hmem : y ∈ xs := by rw [hy]; exact getD_mem (by omega)
      have hyin := HIN.out y hmem
      obtain ⟨i, hi⟩ : ∃ i : Nat, y - 16 = i := ⟨(y - 16).toNat, by omega⟩
      have hiw : i < nw := by have := HW.out; omega
      obtain ⟨x, hx⟩ : ∃ x, x = wd d y := ⟨_, rfl⟩
      have hw0 := (N2.out.next HA.out.bel).bel.cell (p := ⟨bw, ow + i, none⟩) hbw |>.trans (HCW.out i hiw)
      rw [show d.ws.getD i 0 = x by rw [hx, wd, show (y - 16).toNat = i by omega]] at hw0
      have bq := (N2.out.next HA.out.bel).box
      have q0 := bq.c0
      have ql := bq.lt
      dsimp only at q0
      have hbs : b < wr.heap.size := by have := HA.out.bel.size; omega
      have hbws : bw < wr.heap.size := by have := (N2.out.next HA.out.bel).bel.size; omega
      have HNX := Lib.hid (nz_next (d := d) (xs := xs) (q := q) (by omega))
      rw [← hy, ← hx] at HNX
      have hvn : v.n + 1 ≤ 4000000 := by
        have h1 := HA.out.len
        have h2 : (nzF d (xs.take q)).length ≤ (xs.take q).length := List.length_filter_le _ _
        rw [List.length_take] at h2
        omega
      have i0 : (0 : Int) ≤ i := by omega
      have i1 : (i : Int) < nw := by omega
      have j0 : (0 : Int) ≤ q := by omega
      have j1 : (q : Int) < n := by omega
      have jt : decide ((q : Int) < n) = true := by simp; omega
      have wi : IntKind.i64.wrap (i : Int) = i := by simp [IntKind.wrap, IntKind.signed, IntKind.bits]; omega
      clear hcell hmem hyin hx hy bq NN
      by_cases hz : x = 0
      · have hz1 : (x != 0) = false := by simp [hz]
        have HA2 : ∀ k, Hid (Ls.Alling w2 (wr.drewN k) v (nzF d (xs.take (q + 1)))) := fun k => Lib.hid (by
          rw [HNX.out, if_pos hz]
          exact ⟨HA.out.own, below_drawn' HA.out.bel k⟩)
        clear hz
        go_wp2
        go_quiet (fail)
        go_wp2
        go_roundw
        case rel => exact ⟨v, q + 1, by omega, rfl, by go_num, HA2 _⟩
        case measure => simp [intOf]; omega
      · have hz1 : (x != 0) = true := by simp [hz]
        have HNX2 := Lib.hid (HNX.out.trans (if_neg hz))
        clear hz HNX
        go_wp2
        go_quiet (fail)
        have hq4 : (wr.drewN nq).cell? ⟨b, off + q, none⟩ = some (.int .i64 y) := hq1
        have ha4 : Ls.Alling w2 (wr.drewN nq) v (nzF d (xs.take q)) := ⟨HA.out.own, below_drawn' HA.out.bel nq⟩
        have hb4 : b < (wr.drewN nq).heap.size := hbs
        have HA4 := Lib.hid ha4
        clear hw0 q0 ql hbws hbs hq1 ha4
        generalize wr.drewN nq = w4 at hq4 hb4 HA4 ⊢
        go_wp2_with (at_builtin; refine Ls.list_cat rfl _ _ rfl rfl rfl (HA4.out.alloc _).own (Ls.row_lit1 _ _) (HA4.out.alloc _).bel.size hvn ?_)
        intro p' cp' w5 hcat
        have hA5 := (HA4.out.alloc _).cat hcat
        rw [← HNX2.out] at hA5
        have H5 := Lib.hid hA5
        clear hcat hA5 hq4 hb4
        go_wp2
        go_roundw
        case rel => exact ⟨⟨p', v.n + 1, cp'⟩, q + 1, by omega, rfl, by go_num, H5⟩
        case measure => simp [intOf]; omega
    · obtain rfl : q = n := by omega
      have jt : decide ((q : Int) < q) = false := by simp
      have HH := HA.out
      rw [List.take_of_length_le (by have := HN.out; omega)] at HH
      have HE := Lib.hid (And.intro (own_less HH.own N2.out.bel.size) (N2.out.next HH.bel).bel)
      clear HH
      go_wp2
      go_ret
      exact ⟨v, rfl, HE.out.1, HE.out.2⟩
theorem rused_any (hp : Hp w w.heap.size s d) (hf : Fine s d) : Calls Tryz.prog 31 #[(.agg #[.slice s.w.a s.w.n s.w.c, .slice s.p.a s.p.n s.p.c, .slice (s.u 0).a (s.u 0).n (s.u 0).c, .slice (s.u 1).a (s.u 1).n (s.u 1).c, .slice (s.u 2).a (s.u 2).n (s.u 2).c, .slice s.c.a s.c.n s.c.c])] w (Ls.AllOut w (usedL s d)) := by
  cases hm : mayB0 s d
  · rw [show usedL s d = [] by simp [usedL, hm]]
    exact rused_no s d w hp hf hm
  · rw [show usedL s d = nzF d (Cl.allS d.f s.p.n) by
      rw [usedL, if_pos hm]
      exact (nz_used fun a ha => (word_used (List.all_eq_true.1 (mayH_all hm).2.1 a ha)).1).symm]
    exact rused_core s d w _ rfl hp hf hm
end
end Go.Proofs.YtccjelpfmkbmiaaGreatDoor
end
section
namespace Go.Proofs.YtccjelpfmkbmiaaGreatDoor.Ha
open Go.Proofs.YtccjelpfmkbmiaaGreatDoor
open Go.RowKit
set_option maxRecDepth 100000

/-- Slots within the frame, no two alike. -/
def fitG (ops : Array Oper) (n : Nat) : Bool := (List.range ops.size).all fun i => ((ops[i]?).map fun o => (match o.dst with
  | none => true
  | some s => decide (s < n) && (List.range i).all fun j => ((ops[j]?).map fun q => !(q.dst == some s)).getD true)).getD true
theorem fit_g {ops : Array Oper} {n i : Nat} {o : Oper} {s : Nat} (h : fitG ops n = true) (ho : ops[i]? = some o) (hs : o.dst = some s) : s < n ∧ ∀ j q, j < i → ops[j]? = some q → ¬ q.dst = some s := by
  have hi : i < ops.size := (Array.getElem?_eq_some_iff.1 ho).1
  have h2 := List.all_eq_true.1 h i (List.mem_range.2 hi)
  rw [ho] at h2
  simp only [Option.map_some, Option.getD_some] at h2
  rw [hs] at h2
  simp only [Bool.and_eq_true, decide_eq_true_eq] at h2
  refine ⟨h2.1, fun j q hj hq hd => ?_⟩
  have h3 := List.all_eq_true.1 h2.2 j (List.mem_range.2 hj)
  rw [hq] at h3
  simp [hd] at h3
/-- No other one has this slot. -/
theorem fit_ne {ops : Array Oper} {n i j : Nat} {o q : Oper} {s : Nat} (h : fitG ops n = true) (ho : ops[i]? = some o) (hs : o.dst = some s) (hq : ops[j]? = some q) (hd : q.dst = some s) : j = i := by
  rcases Nat.lt_trichotomy j i with hlt | e | hlt
  · exact absurd hd ((fit_g h ho hs).2 j q hlt hq)
  · exact e
  · exact absurd hs ((fit_g h hq hd).2 i o hlt ho)
open Go.Proofs.YtccjelpfmkbmiaaGreatDoor.Mu (Pl)
theorem pl_put {ops : Array Oper} {a0 a : Act} {val val' : Nat → Value} {l : Nat → Bool} {i : Nat} {o : Oper} {v : Value} (hf : fitG ops a0.tmps.size = true) (h : Pl ops a0 val l a) (ho : ops[i]? = some o) (hv : ∀ j, l j = true → val' j = val j) (hl : l i = false) (he : val' i = v) : Pl ops a0 val' (Ls.upd l i true) (a.put o.dst v) := by
  cases hd : o.dst with
  | none =>
    refine ⟨h.sz, h.df, h.out, fun j q s hq hj hs => ?_⟩
    by_cases e : j = i
    · subst e
      rw [ho] at hq
      cases hq
      rw [hd] at hs
      cases hs
    · rw [Ls.upd_other _ _ e] at hj
      rw [hv j hj]
      exact h.got j q s hq hj hs
  | some s =>
    have h1 := fit_g hf ho hd
    refine ⟨by simp [Act.put, h.sz], h.df, fun j hj => ?_, fun j q s' hq hj hs => ?_⟩
    · have hne : ¬ s = j := fun e => hj i o ho (by rw [hd, e])
      rw [← h.out j hj]
      simp [Act.put, Array.getElem?_setIfInBounds_ne hne]
    · by_cases e : j = i
      · subst e
        rw [ho] at hq
        cases hq
        rw [hd] at hs
        cases hs
        have : s < a.tmps.size := by rw [h.sz]; exact h1.1
        simp [Act.put, this, he]
      · rw [Ls.upd_other _ _ e] at hj
        have hne : ¬ s = s' := fun e' => e (fit_ne hf ho hd hq (by rw [hs, e']))
        rw [hv j hj, ← h.got j q s' hq hj hs]
        simp [Act.put, Array.getElem?_setIfInBounds_ne hne]
/-- What is carried out, one by one. -/
def putD (val : Nat → Value) : List (Option Tmp) → Nat → Act → Act
  | [], _, a => a
  | d :: ds, k, a => putD val ds (k + 1) (a.put d (val k))
section
variable {val : Nat → Value}
theorem put_size (a : Act) (d : Option Tmp) (v : Value) : (a.put d v).tmps.size = a.tmps.size := by cases d <;> simp [Act.put]
theorem putD_out (j : Nat) : ∀ (ds : List (Option Tmp)) (k : Nat) (a : Act), (∀ i : Nat, ¬ ds[i]? = some (some j)) → (putD val ds k a).tmps[j]? = a.tmps[j]?
  | [], _, _, _ => rfl
  | d :: ds, k, a, h => by
    have e : (putD val ds (k + 1) (a.put d (val k))).tmps[j]? = _ := putD_out j ds (k + 1) _ fun i hi => h (i + 1) hi
    show (putD val ds (k + 1) _).tmps[j]? = _
    rw [e]
    cases hd : d with
    | none => rfl
    | some s => exact Sh.put_ne fun e' => h 0 (by rw [hd, e']; rfl)
theorem putD_at (j : Nat) : ∀ (ds : List (Option Tmp)) (k i : Nat) (a : Act), ds[i]? = some (some j) → (∀ i' : Nat, ds[i']? = some (some j) → i' = i) → j < a.tmps.size → (putD val ds k a).tmps[j]? = some (val (k + i))
  | [], _, i, _, h, _, _ => by simp at h
  | d :: ds, k, 0, a, h, hu, hj => by
    have e : (putD val ds (k + 1) (a.put d (val k))).tmps[j]? = _ := putD_out j ds (k + 1) _ fun i hi => by
      have := hu (i + 1) hi
      omega
    show (putD val ds (k + 1) _).tmps[j]? = _
    have hd : d = some j := by simpa using h
    rw [e, Nat.add_zero, hd]
    exact Sh.put_at hj
  | d :: ds, k, i + 1, a, h, hu, hj => by
    have e := putD_at j ds (k + 1) i (a.put d (val k)) h (fun i' hi' => by have := hu (i' + 1) hi'; omega) (by rw [put_size]; exact hj)
    show (putD val ds (k + 1) _).tmps[j]? = _
    rw [e, show k + 1 + i = k + (i + 1) by omega]
theorem putD_df : ∀ (ds : List (Option Tmp)) (k : Nat) (a : Act), (putD val ds k a).defers = a.defers
  | [], _, _ => rfl
  | d :: ds, k, a => by
    show (putD val ds (k + 1) _).defers = _
    rw [putD_df ds (k + 1)]
    cases d <;> rfl
end
/-- The frame behind a region. -/
theorem pl_full {ops : Array Oper} {a0 a : Act} {val : Nat → Value} {l : Nat → Bool} (h : Pl ops a0 val l a) (hf : fitG ops a0.tmps.size = true) (hall : ∀ i, i < ops.size → l i = true) (ds : List (Option Tmp)) (hd : ops.toList.map (·.dst) = ds) : a = putD val ds 0 a0 := by
  have hg : ∀ (i : Nat) (d : Option Tmp), ds[i]? = some d ↔ ∃ o : Oper, ops[i]? = some o ∧ o.dst = d := fun i d => by
    rw [← hd, List.getElem?_map, Array.getElem?_toList]
    simp [Option.map_eq_some_iff]
  refine Sh.act_ext (h.df.trans (putD_df _ _ _).symm) fun j => ?_
  by_cases hj : ∃ i : Nat, ds[i]? = some (some j)
  · obtain ⟨i, hi⟩ := hj
    obtain ⟨o, ho, hs⟩ := (hg i _).1 hi
    have hlt := (fit_g hf ho hs).1
    rw [putD_at j ds 0 i a0 hi (fun i' hi' => by
      obtain ⟨q, hq, hqs⟩ := (hg i' _).1 hi'
      exact fit_ne hf ho hs hq hqs) hlt, Nat.zero_add]
    exact h.got i o j ho (hall i (Array.getElem?_eq_some_iff.1 ho).1) hs
  · rw [putD_out j ds 0 a0 fun i hi => hj ⟨i, hi⟩]
    exact h.out j fun i o ho hs => hj ⟨i, (hg i _).2 ⟨o, ho, hs⟩⟩
section
variable {P : Program} {ops : Array Oper} {Q : Exit → Act → World → Prop}
/-- An operation whose guard doesn't hold. -/
theorem w_skip {o : Oper} {rest : List Oper} {a : Act} {W : World} (_ : o.guard.isSome = true) (hg : Region.wanted o (yielded ops a.tmps) = false) (hK : wpList P ops Q rest (a.put o.dst undef) W) : wpList P ops Q (o :: rest) a W := by
  refine wpList_step fun K hK' => ?_
  rw [if_neg (by rw [hg]; decide)]
  exact hK' _ _ hK
end
end Go.Proofs.YtccjelpfmkbmiaaGreatDoor.Ha
end
section
namespace Go.Proofs.YtccjelpfmkbmiaaGreatDoor.Ha
open Go.Proofs.YtccjelpfmkbmiaaGreatDoor
open Go.RowKit
open Go.Proofs.YtccjelpfmkbmiaaGreatDoor.Mu (Pl)
set_option maxRecDepth 100000

/-- What is not carried out yet has left its slot alone. -/
def Kept (ops : Array Oper) (a0 : Act) (l : Nat → Bool) (a : Act) : Prop := ∀ (i : Nat) (o : Oper) (s : Nat), ops[i]? = some o → l i = false → o.dst = some s → a.tmps[s]? = a0.tmps[s]?
theorem kept_put {ops : Array Oper} {a0 a : Act} {l : Nat → Bool} {i : Nat} {o : Oper} {v : Value} (hf : fitG ops a0.tmps.size = true) (h : Kept ops a0 l a) (ho : ops[i]? = some o) : Kept ops a0 (Ls.upd l i true) (a.put o.dst v) := by
  intro j q s hq hj hs
  have e : ¬ j = i := fun e => by
    subst e
    rw [Ls.upd_same] at hj
    cases hj
  rw [Ls.upd_other _ _ e] at hj
  rw [← h j q s hq hj hs]
  cases hd : o.dst with
  | none => rfl
  | some s' => exact Sh.put_ne fun e' => e (fit_ne hf ho hd hq (by rw [hs, e']))
/-- What is carried out stands behind all that it is to stand behind. -/
def Cld (ops : Array Oper) (l : Nat → Bool) : Prop := ∀ (i : Nat) (o : Oper), ops[i]? = some o → l i = true → ∀ e ∈ o.after, Region.binds .any e = true → l e.on = true
theorem cld_put {ops : Array Oper} {l : Nat → Bool} {i : Nat} {o : Oper} (h : Cld ops l) (ho : ops[i]? = some o) (ha : ∀ e ∈ o.after, Region.binds .any e = true → l e.on = true) : Cld ops (Ls.upd l i true) := by
  have up : ∀ j, l j = true → Ls.upd l i true j = true := fun j hj => by unfold Ls.upd; split; rfl; exact hj
  intro j q hq hj e he hb
  by_cases e' : j = i
  · subst e'
    rw [ho] at hq
    cases hq
    exact up _ (ha e he hb)
  · rw [Ls.upd_other _ _ e'] at hj
    exact up _ (h j q hq hj e he hb)
section
variable {P : Program} {ops : Array Oper} {Q : Exit → Act → World → Prop}
theorem region_planK {X : Type} {id : Nat} {a : Act} {w : World} (hm : P.follows .mixedOrders = true) (hb : backAny ops = true) (hf : fitG ops a.tmps.size = true) (val : X → Nat → Value) (skip : Nat → Bool) (hz : ∀ x i, skip i = true → val x i = undef) (I : X → (Nat → Bool) → World → Prop) (x0 : X) (hstart : I x0 (fun _ => false) w.drew)
    (hw : ∀ (i : Nat) (o : Oper) (l : Nat → Bool) (a' : Act) (x : X), ops[i]? = some o → Pl ops a (val x) l a' → (∀ e ∈ o.after, Region.binds .any e = true → l e.on = true) → Region.wanted o (yielded ops a'.tmps) = !skip i)
    (hskip : ∀ (i : Nat) (l : Nat → Bool) (x : X) (W : World), skip i = true → I x l W → I x (Ls.upd l i true) W)
    (hstep : ∀ (i : Nat) (o : Oper) (l : Nat → Bool) (a' : Act) (x : X) (W : World), ops[i]? = some o → Pl ops a (val x) l a' → Kept ops a l a' → Cld ops l → I x l W → l i = false → skip i = false → (∀ e ∈ o.after, Region.binds .any e = true → l e.on = true) → ∀ K : Act → World → Prop,
      (∀ (x' : X) (W' : World), (∀ j, l j = true → val x' j = val x j) → I x' (Ls.upd l i true) W' → K (a'.put o.dst (val x' i)) W') → o.wp P a' W K Q)
    (hdone : ∀ (l : Nat → Bool) (a' : Act) (x : X) (W : World), Pl ops a (val x) l a' → I x l W → (∀ i, i < ops.size → l i = true) → Q .normal a' W) : (Code.region id ops true).wp P Q a w := by
  refine wp_region_from hm (fun a0 l a' W => a0 = a ∧ (Kept ops a l a' ∧ Cld ops l) ∧ ∃ x, Pl ops a (val x) l a' ∧ I x l W) (dag_any hb) ⟨rfl, ⟨fun _ _ _ _ _ _ => rfl, fun _ _ _ h => (by cases h)⟩, x0, ⟨rfl, rfl, fun _ _ => rfl, fun _ _ _ _ h => (by cases h)⟩, hstart⟩ ?_ ?_
  · rintro i o l a' W ho ⟨_, ⟨hk', hcd⟩, x, hP, hI⟩ hl haft K hK
    refine wpOp_of ho ?_
    have hg := hw i o l a' x ho hP haft
    cases hk : skip i with
    | true =>
      rw [hk] at hg
      rw [if_neg (show ¬ Region.wanted o (yielded ops a'.tmps) = true by rw [hg]; decide)]
      exact hK _ _ ⟨rfl, ⟨kept_put hf hk' ho, cld_put hcd ho haft⟩, x, pl_put hf hP ho (fun _ _ => rfl) hl (hz x i hk), hskip i l x W hk hI⟩
    | false =>
      rw [hk] at hg
      rw [if_pos (show Region.wanted o (yielded ops a'.tmps) = true from hg)]
      exact hstep i o l a' x W ho hP hk' hcd hI hl hk haft K fun x' W' hv hI' => hK _ _ ⟨rfl, ⟨kept_put hf hk' ho, cld_put hcd ho haft⟩, x', pl_put hf hP ho hv hl rfl, hI'⟩
  · rintro l a' W ⟨_, _, x, hP, hI⟩ hall
    exact hdone l a' x W hP hI hall
end
end Go.Proofs.YtccjelpfmkbmiaaGreatDoor.Ha
end
