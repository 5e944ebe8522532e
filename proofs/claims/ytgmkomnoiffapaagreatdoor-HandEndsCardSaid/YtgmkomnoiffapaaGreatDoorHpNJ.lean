/-
  Merged texts: HaAll, RtSame, ShGrey, ShListed, PgSame, HpSame, ShLaw, HaLaw.
-/
import Derived.Test.YtgmkomnoiffapaaGreatDoorHpNI
import Derived.Deep.LoopGhost
import Derived.Test.YtgmkomnoiffapaaGreatDoorNRtRef
import Derived.Deep.QuietTactic
import Derived.BigQuiet
import Derived.Test.YtgmkomnoiffapaaGreatDoorHpNG
import Derived.Test.YtgmkomnoiffapaaGreatDoorHpNE
import Derived.Test.YtgmkomnoiffapaaGreatDoorHpNB
import Derived.Test.YtgmkomnoiffapaaGreatDoorHpNC
import Derived.Test.YtgmkomnoiffapaaGreatDoorNHaAns
section
namespace Go.Proofs.YtgmkomnoiffapaaGreatDoor.Ha
open Go.Proofs.YtgmkomnoiffapaaGreatDoor Go.Proofs.YtgmkomnoiffapaaGreatDoor.Rt
open Go.RowKit
open Go.Proofs.YtgmkomnoiffapaaGreatDoor.Mu (hv kv w_load w_loadg ldHb ldKb ldTb)
set_option maxRecDepth 100000

/-- Where the first of n threads is, from the k-th on, of which p holds; -1 where there is none. -/
def idxF (p : Ts → Bool) (g : Nat → Ts) : Nat → Nat → Int
  | 0, _ => -1
  | n + 1, k => if p (g k) = true then (k : Int) else idxF p g n (k + 1)
def idxT (p : Ts → Bool) (T : Tl) : Int := idxF p T.g T.s.n 0
theorem idxF_spec (p : Ts → Bool) (g : Nat → Ts) : ∀ n k : Nat, (idxF p g n k = -1 ∧ ∀ i, k ≤ i → i < k + n → p (g i) = false) ∨ ∃ i : Nat, idxF p g n k = (i : Int) ∧ k ≤ i ∧ i < k + n ∧ p (g i) = true ∧ ∀ j, k ≤ j → j < i → p (g j) = false
  | 0, k => .inl ⟨rfl, fun i h1 h2 => absurd h2 (by omega)⟩
  | n + 1, k => by
    unfold idxF
    by_cases h : p (g k) = true
    · rw [if_pos h]
      exact .inr ⟨k, rfl, Nat.le_refl _, by omega, h, fun j h1 h2 => absurd h2 (by omega)⟩
    · rw [if_neg h]
      have h0 : p (g k) = false := by simpa using h
      rcases idxF_spec p g n (k + 1) with ⟨e, hall⟩ | ⟨i, e, h1, h2, h3, h4⟩
      · refine .inl ⟨e, fun i hi1 hi2 => ?_⟩
        by_cases hk : i = k
        · rw [hk]; exact h0
        · exact hall i (by omega) (by omega)
      · refine .inr ⟨i, e, by omega, by omega, h3, fun j hj1 hj2 => ?_⟩
        by_cases hk : j = k
        · rw [hk]; exact h0
        · exact h4 j (by omega) hj2
/-- Does p hold of one of them? -/
def anyB (p : Ts → Bool) (g : Nat → Ts) (n : Nat) : Bool := (List.range n).any fun i => p (g i)
theorem any_iff {p : Ts → Bool} {g : Nat → Ts} {n : Nat} : anyB p g n = true ↔ ∃ i, i < n ∧ p (g i) = true := by
  unfold anyB
  rw [List.any_eq_true]
  simp only [List.mem_range]
theorem idx_any (p : Ts → Bool) (T : Tl) : decide (0 ≤ idxT p T) = anyB p T.g T.s.n := by
  unfold idxT
  rcases idxF_spec p T.g T.s.n 0 with ⟨e, hall⟩ | ⟨i, e, _, h2, h3, _⟩
  · rw [e, decide_eq_false (by decide), eq_comm, ← Bool.not_eq_true, any_iff]
    rintro ⟨i, hi, h⟩
    rw [hall i (Nat.zero_le _) (by omega)] at h
    cases h
  · rw [e, decide_eq_true (by omega), eq_comm, any_iff]
    exact ⟨i, by omega, h3⟩
theorem tindex_zero (a : Option Addr) (c : Nat) (fv : Value) (w : World) : Calls Tryz.prog 69 #[.slice a 0 c, fv] w fun e w' => e = .returned (.int .i64 (-1)) ∧ Below w.heap.size w w' := by
  go_enter Tryz.func69, Tryz.ntmps69
  go_wp2
  go_loopg [5, 8] 0 (fun _ _ s8 wr => s8 = .int .i64 0 ∧ wr = w)
  case atStart => exact ⟨rfl, rfl⟩
  case round =>
    obtain ⟨rfl, rfl⟩ := hrel
    go_wp2
    go_ret
    exact ⟨rfl, Below.refl _ _⟩
set_option maxHeartbeats 2000000 in
theorem tindex_pos (n c b off : Nat) (g : Nat → Ts) (p : Ts → Bool) (fg : Nat) (lb : Array Value) (w : World) (eg : ∀ args w, (callFunc fg args).run Tryz.prog w = .ok (.enter fg args) w) (hr : TRow w w.heap.size (some ⟨b, off, none⟩) n g) (hn : n ≤ 1000000) (h0 : 0 < n)
    (hp : ∀ i, i < n → ∀ W, Below w.heap.size w W → Calls Tryz.prog fg (#[(.agg #[.bool (g i).lv, .int .i64 ((g i).r 0), .int .i64 ((g i).r 1), .int .i64 ((g i).r 2), .int .i64 ((g i).r 3), .slice ((g i).u 0).a ((g i).u 0).n ((g i).u 0).c, .slice ((g i).u 1).a ((g i).u 1).n ((g i).u 1).c, .slice ((g i).u 2).a ((g i).u 2).n ((g i).u 2).c, .int .i64 (g i).ep, .int .i64 (g i).sg, .int .i64 (g i).rt, .slice (g i).o.a (g i).o.n (g i).o.c, .int .i64 (g i).pc, .int .i64 (g i).x, .int .i64 (g i).y])] ++ lb) W fun e w' => e = .returned (.bool (p (g i))) ∧ Below W.heap.size W w') :
    Calls Tryz.prog 69 #[.slice (some ⟨b, off, none⟩) n c, .func (.func fg) #[] lb] w fun e w' => e = .returned (.int .i64 (idxF p g n 0)) ∧ Below w.heap.size w w' := by
  have HR := Lib.hid hr
  have HP := Lib.hid hp
  obtain ⟨r, hr'⟩ : ∃ r, r = idxF p g n 0 := ⟨_, rfl⟩
  have R0 := Lib.hid hr'
  rw [← hr']
  clear hr hp hr'
  go_enter Tryz.func69, Tryz.ntmps69
  go_wp2
  go_loopg [5, 8] n (fun gg _ s8 wr => ∃ kk : Nat, kk ≤ n ∧ n - kk ≤ gg ∧ s8 = .int .i64 kk ∧ Hid (Below w.heap.size w wr ∧ r = idxF p g (n - kk) kk))
  case atStart => exact ⟨0, Nat.zero_le _, by omega, rfl, Lib.hid ⟨Below.refl _ _, by rw [R0.out]; rfl⟩⟩
  case round =>
    obtain ⟨kk, hkk, hg, rfl, A⟩ := hrel
    by_cases hlt : kk < n
    · have hltz : (kk : Int) < (n : Int) := by omega
      have L := Lib.hid ((HR.out.below A.out.1).load rfl hlt)
      have hcall := HP.out kk hlt _ A.out.1
      have e1 : idxF p g (n - kk) kk = if p (g kk) = true then (kk : Int) else idxF p g (n - (kk + 1)) (kk + 1) := by
        rw [show n - kk = (n - (kk + 1)) + 1 by omega]
        rfl
      have A1 := Lib.hid (And.intro A.out.1 (A.out.2.trans e1))
      clear e1 A
      cases hq : p (g kk) with
      | true =>
        rw [hq] at hcall
        have hr2 := Lib.hid (show r = (kk : Int) by rw [A1.out.2, if_pos hq])
        go_wp2_with (first
          | (refine w_load L.out rfl rfl rfl rfl ?_)
          | (go_at_fn fg; refine hcall.mono ?_; rintro e9 w9 ⟨rfl, hb9⟩; have A2 := Lib.hid (A1.out.1.trans (hb9.mono A1.out.1.size)); clear hb9))
        go_ret
        exact ⟨by rw [hr2.out]; rfl, A2.out⟩
      | false =>
        rw [hq] at hcall
        have hr2 := Lib.hid (show r = idxF p g (n - (kk + 1)) (kk + 1) by rw [A1.out.2, if_neg (by rw [hq]; decide)])
        go_wp2_with (first
          | (refine w_load L.out rfl rfl rfl rfl ?_)
          | (go_at_fn fg; refine hcall.mono ?_; rintro e9 w9 ⟨rfl, hb9⟩; have A2 := Lib.hid (And.intro (A1.out.1.trans (hb9.mono A1.out.1.size)) hr2.out); clear hb9))
        go_roundg (n - (kk + 1))
        case measure => omega
        case rel => exact ⟨kk + 1, by omega, by omega, by go_num, A2⟩
    · have hltz : ¬ (kk : Int) < (n : Int) := by omega
      have : kk = n := by omega
      subst this
      have hr2 := Lib.hid (show r = -1 by rw [A.out.2, Nat.sub_self]; rfl)
      go_wp2
      go_ret
      exact ⟨by rw [hr2.out]; rfl, A.out.1⟩
theorem tindex_any (T : Tl) (p : Ts → Bool) (fg : Nat) (lb : Array Value) (w : World) (eg : ∀ args w, (callFunc fg args).run Tryz.prog w = .ok (.enter fg args) w) (hr : TRow w w.heap.size T.s.a T.s.n T.g) (hn : T.s.n ≤ 1000000)
    (hp : ∀ i, i < T.s.n → ∀ W, Below w.heap.size w W → Calls Tryz.prog fg (#[(.agg #[.bool (T.g i).lv, .int .i64 ((T.g i).r 0), .int .i64 ((T.g i).r 1), .int .i64 ((T.g i).r 2), .int .i64 ((T.g i).r 3), .slice ((T.g i).u 0).a ((T.g i).u 0).n ((T.g i).u 0).c, .slice ((T.g i).u 1).a ((T.g i).u 1).n ((T.g i).u 1).c, .slice ((T.g i).u 2).a ((T.g i).u 2).n ((T.g i).u 2).c, .int .i64 (T.g i).ep, .int .i64 (T.g i).sg, .int .i64 (T.g i).rt, .slice (T.g i).o.a (T.g i).o.n (T.g i).o.c, .int .i64 (T.g i).pc, .int .i64 (T.g i).x, .int .i64 (T.g i).y])] ++ lb) W fun e w' => e = .returned (.bool (p (T.g i))) ∧ Below W.heap.size W w') :
    Calls Tryz.prog 69 #[.slice T.s.a T.s.n T.s.c, .func (.func fg) #[] lb] w fun e w' => e = .returned (.int .i64 (idxT p T)) ∧ Below w.heap.size w w' := by
  obtain ⟨⟨a, n, c⟩, g⟩ := T
  rcases Nat.eq_zero_or_pos n with h0 | h0
  · obtain rfl : n = 0 := h0
    exact tindex_zero a c _ w
  · obtain ⟨b, off, ha, _⟩ := hr h0
    have ha : a = some ⟨b, off, none⟩ := ha
    subst ha
    exact tindex_pos n c b off g p fg lb w eg hr hn h0 hp
theorem tcontains_any (T : Tl) (p : Ts → Bool) (fg : Nat) (lb : Array Value) (w : World) (eg : ∀ args w, (callFunc fg args).run Tryz.prog w = .ok (.enter fg args) w) (hr : TRow w w.heap.size T.s.a T.s.n T.g) (hn : T.s.n ≤ 1000000)
    (hp : ∀ i, i < T.s.n → ∀ W, Below w.heap.size w W → Calls Tryz.prog fg (#[(.agg #[.bool (T.g i).lv, .int .i64 ((T.g i).r 0), .int .i64 ((T.g i).r 1), .int .i64 ((T.g i).r 2), .int .i64 ((T.g i).r 3), .slice ((T.g i).u 0).a ((T.g i).u 0).n ((T.g i).u 0).c, .slice ((T.g i).u 1).a ((T.g i).u 1).n ((T.g i).u 1).c, .slice ((T.g i).u 2).a ((T.g i).u 2).n ((T.g i).u 2).c, .int .i64 (T.g i).ep, .int .i64 (T.g i).sg, .int .i64 (T.g i).rt, .slice (T.g i).o.a (T.g i).o.n (T.g i).o.c, .int .i64 (T.g i).pc, .int .i64 (T.g i).x, .int .i64 (T.g i).y])] ++ lb) W fun e w' => e = .returned (.bool (p (T.g i))) ∧ Below W.heap.size W w') :
    Calls Tryz.prog 75 #[.slice T.s.a T.s.n T.s.c, .func (.func fg) #[] lb] w fun e w' => e = .returned (.bool (anyB p T.g T.s.n)) ∧ Below w.heap.size w w' := by
  have C1 := Lib.hid (tindex_any T p fg lb w eg hr hn hp)
  have e0 := idx_any p T
  obtain ⟨r, hr'⟩ : ∃ r, r = idxT p T := ⟨_, rfl⟩
  obtain ⟨c, hc⟩ : ∃ c, c = anyB p T.g T.s.n := ⟨_, rfl⟩
  rw [← hr', ← hc] at e0
  rw [← hr'] at C1
  rw [← hc]
  have e1 : decide (r ≥ 0) = c := e0
  clear hr hp eg hr' hc
  go_enter Tryz.func75, Tryz.ntmps75
  go_wp2_with (go_at_call 69; refine C1.out.mono ?_; rintro e9 w9 ⟨rfl, hb9⟩; have B9 := Lib.hid hb9; clear hb9)
  go_ret
  exact ⟨rfl, B9.out⟩
/-- A thread that lives, and has not answered. -/
def openB (ph ep : Int) (t : Ts) : Bool := t.lv && !ansB ph ep t
def allB (ph ep : Int) (T : Tl) : Bool := !anyB (openB ph ep) T.g T.s.n
theorem all_iff {ph ep : Int} {T : Tl} : allB ph ep T = true ↔ ∀ i, i < T.s.n → openB ph ep (T.g i) = false := by
  unfold allB
  rw [Bool.not_eq_true', ← Bool.not_eq_true, any_iff]
  exact ⟨fun h i hi => by
    cases e : openB ph ep (T.g i)
    · rfl
    · exact absurd ⟨i, hi, e⟩ h, fun h ⟨i, hi, e⟩ => by rw [h i hi] at e; cases e⟩
theorem eq_b {a b : Bool} (h : a = true ↔ b = true) : a = b := by
  cases a <;> cases b <;> simp_all
theorem all_one (ph ep : Int) (s : Ls.Sl) (t : Ts) (hs : s.n = 1) : allB ph ep ⟨s, fun _ => t⟩ = !openB ph ep t := by
  refine eq_b ?_
  rw [all_iff, Bool.not_eq_true']
  exact ⟨fun h => h 0 (by show 0 < s.n; omega), fun h i _ => h⟩
theorem allK_core (k : Sh.Ks) (t : Ts) (b : Nat) (w : World) (b1 b2 : Bool) (h1 : t.lv = b1) (h2 : ansB k.ph k.ep t = b2) (hb : Box w b (kv k)) : Calls Tryz.prog 76 #[(.agg #[.bool t.lv, .int .i64 (t.r 0), .int .i64 (t.r 1), .int .i64 (t.r 2), .int .i64 (t.r 3), .slice (t.u 0).a (t.u 0).n (t.u 0).c, .slice (t.u 1).a (t.u 1).n (t.u 1).c, .slice (t.u 2).a (t.u 2).n (t.u 2).c, .int .i64 t.ep, .int .i64 t.sg, .int .i64 t.rt, .slice t.o.a t.o.n t.o.c, .int .i64 t.pc, .int .i64 t.x, .int .i64 t.y]), .pointer (some ⟨b, 0, none⟩)] w fun e w' => e = .returned (.bool (b1 && !b2)) ∧ Below w.heap.size w w' := by
  have C2 := Lib.hid (fun W => answered_any k t W)
  rw [h2] at C2
  have H1 := Lib.hid h1
  have HB := Lib.hid hb
  clear h1 h2 hb
  go_enter Tryz.func76, Tryz.ntmps76
  go_upto_region 1 with fail
  obtain ⟨W1, hW1⟩ : ∃ W1, W1 = w.alloc (.cells #[.bool t.lv, .int .i64 (t.r 0), .int .i64 (t.r 1), .int .i64 (t.r 2), .int .i64 (t.r 3), .slice (t.u 0).a (t.u 0).n (t.u 0).c, .slice (t.u 1).a (t.u 1).n (t.u 1).c, .slice (t.u 2).a (t.u 2).n (t.u 2).c, .int .i64 t.ep, .int .i64 t.sg, .int .i64 t.rt, .slice t.o.a t.o.n t.o.c, .int .i64 t.pc, .int .i64 t.x, .int .i64 t.y] 34) := ⟨_, rfl⟩
  have L1 : Hid (Lb w W1 [(w.heap.size, tv t), (b, kv k)] [] []) := Lib.hid (by
    have l := (Lb.mk (ps := []) (rs := []) (bs := [(b, kv k)]) (Below.refl w.heap.size w) (fun x hx => by rcases List.mem_singleton.1 hx with rfl; exact HB.out) (fun x hx => by cases hx) (fun x hx => by cases hx)).lay (tv t) 34
    rw [hW1]
    exact l)
  rw [← hW1]
  clear hW1
  cases b1 with
  | false =>
    have q0 := (L1.out.bx (w.heap.size) (tv t) (by simp)).cel 0 (.bool false) (by rw [← H1.out]; rfl)
    go_wp2
    go_ret
    exact ⟨rfl, L1.out.bel⟩
  | true =>
    have q0 := (L1.out.bx (w.heap.size) (tv t) (by simp)).cel 0 (.bool true) (by rw [← H1.out]; rfl)
    go_wp2_with (first
      | (refine w_loadg (ldKb (L1.out.bx b (kv k) (by simp))) rfl (by kernel_rfl) rfl rfl ?_)
      | (refine w_loadg (ldTb (L1.out.bx (w.heap.size) (tv t) (by simp))) rfl (by kernel_rfl) rfl rfl ?_)
      | ((go_at_call 72); (with_reducible refine (C2.out _).mono ?_); rintro e9 w9 ⟨rfl, hb9⟩; have L2 := Lib.hid (L1.out.next hb9); clear hb9))
    go_ret
    exact ⟨rfl, L2.out.bel⟩
theorem all_any (k : Sh.Ks) (T : Tl) (w : World) (hr : TRow w w.heap.size T.s.a T.s.n T.g) (hn : T.s.n ≤ 1000000) : Calls Tryz.prog 35 #[(.agg #[.int .i64 k.ph, .int .i64 k.ep, .bool k.mj, .slice k.wk.a k.wk.n k.wk.c, .bool k.ov, .int .i64 k.pa, .int .i64 k.pf, .int .i64 k.ps, .int .i64 k.pc, .bool k.me]), .slice T.s.a T.s.n T.s.c] w fun e w' => e = .returned (.bool (allB k.ph k.ep T)) ∧ Below w.heap.size w w' := by
  have HR := Lib.hid hr
  unfold allB
  obtain ⟨c, hc⟩ : ∃ c, c = anyB (openB k.ph k.ep) T.g T.s.n := ⟨_, rfl⟩
  have HC := Lib.hid hc
  rw [← hc]
  clear hr hc
  have eg : ∀ args w, (callFunc 76 args).run Tryz.prog w = .ok (.enter 76 args) w := fun args w => by go_simp
  go_enter Tryz.func35, Tryz.ntmps35
  go_upto_region 1 with fail
  obtain ⟨W1, hW1⟩ : ∃ W1, W1 = w.alloc (.cells #[.int .i64 k.ph, .int .i64 k.ep, .bool k.mj, .slice k.wk.a k.wk.n k.wk.c, .bool k.ov, .int .i64 k.pa, .int .i64 k.pf, .int .i64 k.ps, .int .i64 k.pc, .bool k.me] 30) := ⟨_, rfl⟩
  have L1 : Hid (Lb w W1 [(w.heap.size, kv k)] [] [T]) := Lib.hid (by
    have l := ((lb_none w).rows (T := T) HR.out).lay (kv k) 30
    rw [hW1]
    exact l)
  rw [← hW1]
  clear hW1
  go_wp2_with (go_at_call 75; refine (tcontains_any T (openB k.ph k.ep) 76 #[.pointer (some ⟨w.heap.size, 0, none⟩)] W1 eg (L1.out.rw T (by simp)) hn fun i hi W hb => allK_core k (T.g i) w.heap.size W _ _ rfl rfl ((L1.out.next hb).bx _ _ (by simp))).mono ?_; rintro e9 w9 ⟨rfl, hb9⟩; have L2 := Lib.hid (L1.out.next hb9); clear hb9)
  rw [← HC.out]
  go_ret
  exact ⟨rfl, L2.out.bel⟩
end Go.Proofs.YtgmkomnoiffapaaGreatDoor.Ha
end
section
namespace Go.Proofs.YtgmkomnoiffapaaGreatDoor.Rt
open Go.Proofs.YtgmkomnoiffapaaGreatDoor
open Go.RowKit
set_option maxRecDepth 100000

theorem regs_self (a b c d : Int) (w : World) : (binOp .eql 31 (.agg #[.int .i64 a, .int .i64 b, .int .i64 c, .int .i64 d]) (.agg #[.int .i64 a, .int .i64 b, .int .i64 c, .int .i64 d])).run Tryz.prog w = .ok (.bool true) w := by
  have u3 := Tryz.underlying3
  have a3 := Tryz.isAgg3
  have z3 := Tryz.sizeOf3
  rw [run_eql_struct, show (10000 : Nat) = 9999 + 1 from rfl, Op.equalIn]
  simp only [Sem.run_bind, run_underlying Tryz.underlying31, Result.andThen_ok]
  simp only [Std.Legacy.Range.forIn_eq_forIn_range', Std.Legacy.Range.size, Nat.sub_zero, Nat.add_sub_cancel, Nat.div_one, List.range'_succ, List.range'_zero, List.forIn_cons, List.forIn_nil]
  go_simp
structure Tw (w W : World) (t t' : Ts) : Prop where
  bel : Below w.heap.size w W
  one : Box W w.heap.size (tv t)
  two : Box W (w.heap.size + 1) (tv t')
theorem Tw.next {w W W' : World} {t t' : Ts} (h : Tw w W t t') (hb : Below W.heap.size W W') : Tw w W' t t' := ⟨h.bel.trans (hb.mono h.bel.size), h.one.next hb, h.two.next hb⟩
end Go.Proofs.YtgmkomnoiffapaaGreatDoor.Rt
end
section
namespace Go.Proofs.YtgmkomnoiffapaaGreatDoor.Sh
open Go.Proofs.YtgmkomnoiffapaaGreatDoor
open Go.RowKit
set_option maxRecDepth 100000

section
variable (s : Hs) (d : Hd_) (k : Ks) (xs : List Int) (w : World)
end
end Go.Proofs.YtgmkomnoiffapaaGreatDoor.Sh
end
section
namespace Go.Proofs.YtgmkomnoiffapaaGreatDoor.Sh
open Go.Proofs.YtgmkomnoiffapaaGreatDoor
open Go.RowKit
set_option maxRecDepth 100000

section
variable (s : Hs) (d : Hd_) (k : Ks) (xs g : List Int) (w : World)
end
end Go.Proofs.YtgmkomnoiffapaaGreatDoor.Sh
end
section
namespace Go.Proofs.YtgmkomnoiffapaaGreatDoor.Cl
open Go.Proofs.YtgmkomnoiffapaaGreatDoor
set_option maxRecDepth 100000
open Go.RowKit

end Go.Proofs.YtgmkomnoiffapaaGreatDoor.Cl
end
section
namespace Go.Proofs.YtgmkomnoiffapaaGreatDoor
open Go.RowKit
set_option maxRecDepth 100000

/-- Two heaps' boxes. -/
structure Two (w W : World) (s t : Hs) (d d2 : Hd_) : Prop where
  bel : Below w.heap.size w W
  b1 : HBox W w.heap.size s
  b2 : HBox W (w.heap.size + 1) t
  h1 : Hp W W.heap.size s d
  h2 : Hp W W.heap.size t d2
theorem Two.next {w W W' : World} {s t : Hs} {d d2 : Hd_} (h : Two w W s t d d2) (hb : Below W.heap.size W W') : Two w W' s t d d2 := ⟨h.bel.trans (hb.mono h.bel.size), h.b1.next hb, h.b2.next hb, h.h1.next hb, h.h2.next hb⟩
end Go.Proofs.YtgmkomnoiffapaaGreatDoor
end
section
namespace Go.Proofs.YtgmkomnoiffapaaGreatDoor.Sh
open Go.Proofs.YtgmkomnoiffapaaGreatDoor
open Go.RowKit
set_option maxRecDepth 100000

section
variable {w w3 w9 W W' : World} {s t : Hs} {d d' : Hd_} {k k' : Ks} {xs ys : List Int} {hs : List (Nat × Hs × Hd_)} {ks : List (Nat × Ks × List Int)} {b c : Nat} {v : Ls.Sl} {o : Bool}
end
end Go.Proofs.YtgmkomnoiffapaaGreatDoor.Sh
end
section
namespace Go.Proofs.YtgmkomnoiffapaaGreatDoor.Ha
open Go.Proofs.YtgmkomnoiffapaaGreatDoor Go.Proofs.YtgmkomnoiffapaaGreatDoor.Rt
open Go.RowKit
open Go.Proofs.YtgmkomnoiffapaaGreatDoor.Mu (hv kv w_load w_loadg ldHb ldKb ldTb)
set_option maxRecDepth 100000

theorem few_core (s : Hs) (k : Sh.Ks) (t : Ts) (w : World) (b1 b2 b3 : Bool) (h1 : fewH s = b1) (h2 : decide (k.wk.n ≤ 100) = b2) (h3 : fewT t = b3) : Calls Tryz.prog 26 #[(.agg #[.slice s.w.a s.w.n s.w.c, .slice s.p.a s.p.n s.p.c, .slice (s.u 0).a (s.u 0).n (s.u 0).c, .slice (s.u 1).a (s.u 1).n (s.u 1).c, .slice (s.u 2).a (s.u 2).n (s.u 2).c, .slice s.c.a s.c.n s.c.c]), (.agg #[.int .i64 k.ph, .int .i64 k.ep, .bool k.mj, .slice k.wk.a k.wk.n k.wk.c, .bool k.ov, .int .i64 k.pa, .int .i64 k.pf, .int .i64 k.ps, .int .i64 k.pc, .bool k.me]), (.agg #[.bool t.lv, .int .i64 (t.r 0), .int .i64 (t.r 1), .int .i64 (t.r 2), .int .i64 (t.r 3), .slice (t.u 0).a (t.u 0).n (t.u 0).c, .slice (t.u 1).a (t.u 1).n (t.u 1).c, .slice (t.u 2).a (t.u 2).n (t.u 2).c, .int .i64 t.ep, .int .i64 t.sg, .int .i64 t.rt, .slice t.o.a t.o.n t.o.c, .int .i64 t.pc, .int .i64 t.x, .int .i64 t.y])] w fun e w' => e = .returned (.bool (b1 && (b2 && b3))) ∧ Below w.heap.size w w' := by
  have C1 := Lib.hid (fun W => Go.Proofs.YtgmkomnoiffapaaGreatDoor.rfew_any s W)
  have C3 := Lib.hid (fun W => Rt.rfew_any t W)
  have g2 : decide ((k.wk.n : Int) ≤ 100) = b2 := by rw [← h2]; exact decide_eq_decide.2 (by omega)
  rw [h1] at C1
  rw [h3] at C3
  clear h1 h3
  go_enter Tryz.func26, Tryz.ntmps26
  go_upto_region 1 with fail
  obtain ⟨W1, hW1⟩ : ∃ W1, W1 = ((w.alloc (.cells #[.slice s.w.a s.w.n s.w.c, .slice s.p.a s.p.n s.p.c, .slice (s.u 0).a (s.u 0).n (s.u 0).c, .slice (s.u 1).a (s.u 1).n (s.u 1).c, .slice (s.u 2).a (s.u 2).n (s.u 2).c, .slice s.c.a s.c.n s.c.c] 28)).alloc (.cells #[.int .i64 k.ph, .int .i64 k.ep, .bool k.mj, .slice k.wk.a k.wk.n k.wk.c, .bool k.ov, .int .i64 k.pa, .int .i64 k.pf, .int .i64 k.ps, .int .i64 k.pc, .bool k.me] 30)).alloc (.cells #[.bool t.lv, .int .i64 (t.r 0), .int .i64 (t.r 1), .int .i64 (t.r 2), .int .i64 (t.r 3), .slice (t.u 0).a (t.u 0).n (t.u 0).c, .slice (t.u 1).a (t.u 1).n (t.u 1).c, .slice (t.u 2).a (t.u 2).n (t.u 2).c, .int .i64 t.ep, .int .i64 t.sg, .int .i64 t.rt, .slice t.o.a t.o.n t.o.c, .int .i64 t.pc, .int .i64 t.x, .int .i64 t.y] 34) := ⟨_, rfl⟩
  have L1 := Lib.hid (lb_three (s := s) (k := k) (t := t) (lb_none w) hW1)
  rw [← hW1]
  clear hW1
  go_wp2_with (refine w_load (ldHb (L1.out.bx w.heap.size (hv s) (by simp [boxes3]))) rfl rfl rfl rfl ?_)
  refine (C1.out W1).mono ?_
  rintro e9 w2 ⟨rfl, hb2⟩
  have L2 := Lib.hid (L1.out.next hb2)
  clear hb2 L1
  have q3 := (L2.out.bx (w.heap.size + 1) (kv k) (by simp [boxes3])).cel 3 (.slice k.wk.a k.wk.n k.wk.c) rfl
  cases b1 with
  | false =>
    go_wp2
    go_ret
    exact ⟨rfl, L2.out.bel⟩
  | true =>
    cases b2 with
    | false =>
      go_wp2
      go_ret
      exact ⟨rfl, L2.out.bel⟩
    | true =>
      go_wp2_with (refine w_loadg (ldTb (L2.out.bx (w.heap.size + 2) (tv t) (by simp [boxes3]))) rfl (by kernel_rfl) rfl rfl ?_)
      refine (C3.out w2).mono ?_
      rintro e9 w3 ⟨rfl, hb3⟩
      have L3 := Lib.hid (L2.out.next hb3)
      clear hb3 L2 q3
      go_wp2
      go_ret
      exact ⟨rfl, L3.out.bel⟩
theorem few_any (s : Hs) (k : Sh.Ks) (t : Ts) (w : World) : Calls Tryz.prog 26 #[(.agg #[.slice s.w.a s.w.n s.w.c, .slice s.p.a s.p.n s.p.c, .slice (s.u 0).a (s.u 0).n (s.u 0).c, .slice (s.u 1).a (s.u 1).n (s.u 1).c, .slice (s.u 2).a (s.u 2).n (s.u 2).c, .slice s.c.a s.c.n s.c.c]), (.agg #[.int .i64 k.ph, .int .i64 k.ep, .bool k.mj, .slice k.wk.a k.wk.n k.wk.c, .bool k.ov, .int .i64 k.pa, .int .i64 k.pf, .int .i64 k.ps, .int .i64 k.pc, .bool k.me]), (.agg #[.bool t.lv, .int .i64 (t.r 0), .int .i64 (t.r 1), .int .i64 (t.r 2), .int .i64 (t.r 3), .slice (t.u 0).a (t.u 0).n (t.u 0).c, .slice (t.u 1).a (t.u 1).n (t.u 1).c, .slice (t.u 2).a (t.u 2).n (t.u 2).c, .int .i64 t.ep, .int .i64 t.sg, .int .i64 t.rt, .slice t.o.a t.o.n t.o.c, .int .i64 t.pc, .int .i64 t.x, .int .i64 t.y])] w fun e w' => e = .returned (.bool (fewA s k t)) ∧ Below w.heap.size w w' := few_core s k t w _ _ _ rfl rfl rfl
theorem fewA_len {s : Hs} {k : Sh.Ks} {t : Ts} (h : fewA s k t = true) : k.wk.n ≤ 100 ∧ (t.o.n ≤ 220 ∧ ∀ j, j < 3 → (t.u j).n ≤ 70) ∧ fewH s = true := by
  unfold fewA at h
  simp only [Bool.and_eq_true, decide_eq_true_eq] at h
  have h2 := h.2.2
  unfold fewT at h2
  simp only [Bool.and_eq_true, decide_eq_true_eq] at h2
  refine ⟨h.2.1, ⟨h2.1, fun j hj => ?_⟩, h.1⟩
  match j, hj with
  | 0, _ => exact h2.2.1
  | 1, _ => exact h2.2.2.1
  | 2, _ => exact h2.2.2.2
/-- What few bounds. -/
structure Bs (n : Q3) : Prop where
  fine : Fine n.s n.d
  wlen : n.d.ws.length = n.s.w.n
  u : ∀ j, j < 3 → (n.F j).length ≤ 70
  o : n.t.o.n ≤ 220
  x : n.xs.length ≤ 100
theorem bs_few {w : World} {n : Q3} (h : fewA n.s n.k n.t = true) (hh : Hold w n) (hv : ∀ i, -9223372036854775808 ≤ n.d.ws.getD i 0 ∧ n.d.ws.getD i 0 ≤ 9223372036854775807) : Bs n := by
  obtain ⟨h1, ⟨h2, h3⟩, h4⟩ := fewA_len h
  refine ⟨fine_few h4 hh.h hv, hh.h.words.1, fun j hj => ?_, h2, ?_⟩
  · have := hh.t.c.len j hj
    have := h3 j hj
    omega
  · have := hh.c.1
    omega
section
variable {w W : World} {s : Hs} {k : Sh.Ks} {P : A5} {n m : Q3}
theorem an_xs (s : Hs) (k : Sh.Ks) (P : A5) : (anS s k P).xs.length ≤ P.xs.length + 1 := by
  unfold anS
  split
  · split
    · split
      · exact Nat.le_succ _
      · exact (Sh.shX_len _ _ _).1
    · exact Nat.le_succ _
  · exact Nat.le_succ _
theorem it_xs (s : Hs) (k : Sh.Ks) (P : A5) : ∀ j, (it s k P j).xs.length ≤ P.xs.length + j
  | 0 => Nat.le_refl _
  | j + 1 => by
    have h1 := it_xs s k P j
    have h2 := an_xs s k (it s k P j)
    show (anS s k (it s k P j)).xs.length ≤ _
    omega
/-- From answer to answer. -/
theorem in_it (hB : Bs n) (j : Nat) (hj : j ≤ 6) (hS : Sim n.s n.k (it n.s n.k (own n) j) m) (hF : m.F = n.F) (hh : Hold W m) (hz : Cl.Sz W) : In W m := by
  have hd := it_hid5 (s := n.s) (k := n.k) (P := own n) hB.wlen j
  have hk := it_keep n.s n.k (own n) j
  have hx := it_xs n.s n.k (own n) j
  refine ⟨hh, hz, ?_, fun i hi => ?_, ?_, ?_⟩
  · rw [hS.d]
    exact fine_lens hS.len (hd.kin.fine hB.fine)
  · have h1 := hh.t.c.len i hi
    have h2 := hB.u i hi
    rw [hF] at h1
    omega
  · rw [hS.o, hk.o]
    have := hB.o
    show n.t.o.n ≤ _
    omega
  · rw [hS.xs]
    have := hB.x
    have : (own n).xs.length ≤ 100 := this
    omega
end
/-- A slice of one thread. -/
theorem one_new (W : World) (t : Ts) (ty : TypeId) : TRow (W.alloc (.cells #[.bool t.lv, .int .i64 (t.r 0), .int .i64 (t.r 1), .int .i64 (t.r 2), .int .i64 (t.r 3), .slice (t.u 0).a (t.u 0).n (t.u 0).c, .slice (t.u 1).a (t.u 1).n (t.u 1).c, .slice (t.u 2).a (t.u 2).n (t.u 2).c, .int .i64 t.ep, .int .i64 t.sg, .int .i64 t.rt, .slice t.o.a t.o.n t.o.c, .int .i64 t.pc, .int .i64 t.x, .int .i64 t.y] ty)) (W.alloc (.cells #[.bool t.lv, .int .i64 (t.r 0), .int .i64 (t.r 1), .int .i64 (t.r 2), .int .i64 (t.r 3), .slice (t.u 0).a (t.u 0).n (t.u 0).c, .slice (t.u 1).a (t.u 1).n (t.u 1).c, .slice (t.u 2).a (t.u 2).n (t.u 2).c, .int .i64 t.ep, .int .i64 t.sg, .int .i64 t.rt, .slice t.o.a t.o.n t.o.c, .int .i64 t.pc, .int .i64 t.x, .int .i64 t.y] ty)).heap.size (some ⟨W.heap.size, 0, none⟩) 1 (fun _ => t) := one_row (Box.new W (tv t) ty) (by rw [World.size_alloc]; omega)
theorem two_new (W : World) (t u : Ts) (ty : TypeId) : TRow (W.alloc (.cells #[.bool t.lv, .int .i64 (t.r 0), .int .i64 (t.r 1), .int .i64 (t.r 2), .int .i64 (t.r 3), .slice (t.u 0).a (t.u 0).n (t.u 0).c, .slice (t.u 1).a (t.u 1).n (t.u 1).c, .slice (t.u 2).a (t.u 2).n (t.u 2).c, .int .i64 t.ep, .int .i64 t.sg, .int .i64 t.rt, .slice t.o.a t.o.n t.o.c, .int .i64 t.pc, .int .i64 t.x, .int .i64 t.y, .bool u.lv, .int .i64 (u.r 0), .int .i64 (u.r 1), .int .i64 (u.r 2), .int .i64 (u.r 3), .slice (u.u 0).a (u.u 0).n (u.u 0).c, .slice (u.u 1).a (u.u 1).n (u.u 1).c, .slice (u.u 2).a (u.u 2).n (u.u 2).c, .int .i64 u.ep, .int .i64 u.sg, .int .i64 u.rt, .slice u.o.a u.o.n u.o.c, .int .i64 u.pc, .int .i64 u.x, .int .i64 u.y] ty)) (W.alloc (.cells #[.bool t.lv, .int .i64 (t.r 0), .int .i64 (t.r 1), .int .i64 (t.r 2), .int .i64 (t.r 3), .slice (t.u 0).a (t.u 0).n (t.u 0).c, .slice (t.u 1).a (t.u 1).n (t.u 1).c, .slice (t.u 2).a (t.u 2).n (t.u 2).c, .int .i64 t.ep, .int .i64 t.sg, .int .i64 t.rt, .slice t.o.a t.o.n t.o.c, .int .i64 t.pc, .int .i64 t.x, .int .i64 t.y, .bool u.lv, .int .i64 (u.r 0), .int .i64 (u.r 1), .int .i64 (u.r 2), .int .i64 (u.r 3), .slice (u.u 0).a (u.u 0).n (u.u 0).c, .slice (u.u 1).a (u.u 1).n (u.u 1).c, .slice (u.u 2).a (u.u 2).n (u.u 2).c, .int .i64 u.ep, .int .i64 u.sg, .int .i64 u.rt, .slice u.o.a u.o.n u.o.c, .int .i64 u.pc, .int .i64 u.x, .int .i64 u.y] ty)).heap.size (some ⟨W.heap.size, 0, none⟩) 2 (fun i => if i = 0 then t else u) := fun _ => by
  have hb := Box.new W (tv t ++ tv u) ty
  refine ⟨W.heap.size, 0, rfl, by rw [World.size_alloc]; omega, fun i hi j v hj => hb.cel _ v ?_⟩
  have hj15 : j < 15 := (List.getElem?_eq_some_iff.1 hj).1
  rcases (show i = 0 ∨ i = 1 by omega) with rfl | rfl
  · rw [show 0 + 0 * 15 + j = j by omega, List.getElem?_append_left (show j < (tv t).length from hj15)]
    exact hj
  · rw [show 0 + 1 * 15 + j = 15 + j by omega, List.getElem?_append_right (show (tv t).length ≤ 15 + j from Nat.le_add_right _ _), show 15 + j - (tv t).length = j from Nat.add_sub_cancel_left _ _]
    exact hj
section
variable {w W : World} {s : Hs} {k k' : Sh.Ks} {P : A5} {n : Q3} {F : Nat → List Int} {g : Nat → O4} {xs : List Int}
theorem Sim.hold (hS : Sim s k P n) (hF : n.F = F) (hg : n.g = g) (h : Hold W n) : Hold W ⟨n.s, n.k, n.t, P.d, P.xs, F, g⟩ := by
  rw [← hS.d, ← hS.xs, ← hF, ← hg]
  exact h
end
end Go.Proofs.YtgmkomnoiffapaaGreatDoor.Ha
end
