/-
  HandAll: All have answered just where each has; those that do not live need not: for every two slices of at most 6 threads; the table of sizes is tied to the program's text by the card.
-/
import Derived.Test.YtgmkomnoiffapaaDoorKHaAwake
import Derived.Test.YtgmkomnoiffapaaDoorHpKK
namespace Go.Proofs.YtgmkomnoiffapaaDoor.HandAll
open Go.Proofs.YtgmkomnoiffapaaDoor Go.Proofs.YtgmkomnoiffapaaDoor.Rt Go.Proofs.YtgmkomnoiffapaaDoor.Ha
open Go.ChangeShapes Go.WideShapes Go.ChangeAt Go.RowKit
open Go.Proofs.YtgmkomnoiffapaaDoor.Mu (hv kv w_load w_loadg ldHb ldKb ldTb noK0)
set_option maxRecDepth 100000

theorem any_succ (p : Ts → Bool) (g : Nat → Ts) (q : Nat) : anyB p g (q + 1) = (anyB p g q || p (g q)) := by
  unfold anyB
  rw [List.range_succ, List.any_append]
  simp
theorem step_f {a z c : Bool} (h : c = (a || z)) (e : false = !a) : false = !c := by
  subst h
  cases a
  · cases e
  · rfl
theorem step_t {a z c : Bool} (h : c = (a || z)) (e : true = !a) : (!z) = !c := by
  subst h
  cases a
  · rfl
  · cases e
section
variable (k : Sh.Ks) (T U : Tl) (w : World)
set_option maxHeartbeats 1000000 in
theorem walk_big (hn : 6 < T.s.n) (hz : Cl.Sz w) (hr : TRow w w.heap.size T.s.a T.s.n T.g) (hr2 : TRow w w.heap.size U.s.a U.s.n U.g) : Calls Tryd.prog 3 #[(.agg #[.int .i64 k.ph, .int .i64 k.ep, .bool k.mj, .slice k.wk.a k.wk.n k.wk.c, .bool k.ov, .int .i64 k.pa, .int .i64 k.pf, .int .i64 k.ps, .int .i64 k.pc, .bool k.me]), .slice T.s.a T.s.n T.s.c, .slice U.s.a U.s.n U.s.c] w fun e w' => e = .returned (.bool true) ∧ Below w.heap.size w w' := by
  have HZ := Lib.hid hz
  have HR := Lib.hid (And.intro hr hr2)
  have ta : decide ((T.s.n : Int) > 6) = true := decide_eq_true (by omega)
  have tb : decide (6 < (T.s.n : Int)) = true := ta
  clear hz hr hr2 hn
  go_enter Tryd.func3, Tryd.ntmps3
  go_upto_region 1 with fail
  obtain ⟨W1, hW1⟩ : ∃ W1, W1 = w.alloc (.cells #[.int .i64 k.ph, .int .i64 k.ep, .bool k.mj, .slice k.wk.a k.wk.n k.wk.c, .bool k.ov, .int .i64 k.pa, .int .i64 k.pf, .int .i64 k.ps, .int .i64 k.pc, .bool k.me] 24) := ⟨_, rfl⟩
  have L1 : Hid (Lb w W1 [(w.heap.size, kv k)] [] [U, T]) := Lib.hid (by
    have l := (((lb_none w).rows (T := T) HR.out.1).rows (T := U) HR.out.2).lay (kv k) 24
    rw [hW1]
    exact l)
  rw [← hW1]
  clear hW1
  go_wp2_with (first
    | ((go_at_call 4); (with_reducible refine (Ha.awake_any _ (L1.out.over HZ.out)).mono ?_); rintro e9 w1 ⟨rfl, hb9⟩; have L2 := Lib.hid (L1.out.next hb9); clear hb9))
  go_ret
  exact ⟨rfl, L2.out.bel⟩
set_option maxHeartbeats 1000000 in
theorem walk_big2 (hn : T.s.n ≤ 6) (hm : 6 < U.s.n) (hz : Cl.Sz w) (hr : TRow w w.heap.size T.s.a T.s.n T.g) (hr2 : TRow w w.heap.size U.s.a U.s.n U.g) : Calls Tryd.prog 3 #[(.agg #[.int .i64 k.ph, .int .i64 k.ep, .bool k.mj, .slice k.wk.a k.wk.n k.wk.c, .bool k.ov, .int .i64 k.pa, .int .i64 k.pf, .int .i64 k.ps, .int .i64 k.pc, .bool k.me]), .slice T.s.a T.s.n T.s.c, .slice U.s.a U.s.n U.s.c] w fun e w' => e = .returned (.bool true) ∧ Below w.heap.size w w' := by
  have HZ := Lib.hid hz
  have HR := Lib.hid (And.intro hr hr2)
  have ta : decide ((T.s.n : Int) > 6) = false := decide_eq_false (by omega)
  have tb : decide (6 < (T.s.n : Int)) = false := ta
  have ua : decide ((U.s.n : Int) > 6) = true := decide_eq_true (by omega)
  have ub : decide (6 < (U.s.n : Int)) = true := ua
  clear hz hr hr2 hn hm
  go_enter Tryd.func3, Tryd.ntmps3
  go_upto_region 1 with fail
  obtain ⟨W1, hW1⟩ : ∃ W1, W1 = w.alloc (.cells #[.int .i64 k.ph, .int .i64 k.ep, .bool k.mj, .slice k.wk.a k.wk.n k.wk.c, .bool k.ov, .int .i64 k.pa, .int .i64 k.pf, .int .i64 k.ps, .int .i64 k.pc, .bool k.me] 24) := ⟨_, rfl⟩
  have L1 : Hid (Lb w W1 [(w.heap.size, kv k)] [] [U, T]) := Lib.hid (by
    have l := (((lb_none w).rows (T := T) HR.out.1).rows (T := U) HR.out.2).lay (kv k) 24
    rw [hW1]
    exact l)
  rw [← hW1]
  clear hW1
  go_wp2_with (first
    | ((go_at_call 4); (with_reducible refine (Ha.awake_any _ (L1.out.over HZ.out)).mono ?_); rintro e9 w1 ⟨rfl, hb9⟩; have L2 := Lib.hid (L1.out.next hb9); clear hb9))
  go_ret
  exact ⟨rfl, L2.out.bel⟩
set_option maxHeartbeats 8000000 in
theorem walk_yes (hn : T.s.n ≤ 6) (hm : U.s.n ≤ 6) (hz : Cl.Sz w) (hr : TRow w w.heap.size T.s.a T.s.n T.g) (hr2 : TRow w w.heap.size U.s.a U.s.n U.g) : Calls Tryd.prog 3 #[(.agg #[.int .i64 k.ph, .int .i64 k.ep, .bool k.mj, .slice k.wk.a k.wk.n k.wk.c, .bool k.ov, .int .i64 k.pa, .int .i64 k.pf, .int .i64 k.ps, .int .i64 k.pc, .bool k.me]), .slice T.s.a T.s.n T.s.c, .slice U.s.a U.s.n U.s.c] w fun e w' => e = .returned (.bool true) ∧ Below w.heap.size w w' := by
  have HZ := Lib.hid hz
  have HR := Lib.hid (And.intro hr hr2)
  have ta : decide ((T.s.n : Int) > 6) = false := decide_eq_false (by omega)
  have tb : decide (6 < (T.s.n : Int)) = false := ta
  have ua : decide ((U.s.n : Int) > 6) = false := decide_eq_false (by omega)
  have ub : decide (6 < (U.s.n : Int)) = false := ua
  obtain ⟨A, hA⟩ : ∃ A, A = allB k.ph k.ep T := ⟨_, rfl⟩
  obtain ⟨B, hB⟩ : ∃ B, B = allB k.ph k.ep U := ⟨_, rfl⟩
  have EA := Lib.hid hA
  have EB := Lib.hid hB
  have NN := Lib.hid (And.intro hn hm)
  have CT := Lib.hid (fun W (hL : Lb w W [(w.heap.size, kv k)] [] [U, T]) => all_any k T W (hL.rw T (by simp)) (by omega))
  have CU := Lib.hid (fun W (hL : Lb w W [(w.heap.size, kv k)] [] [U, T]) => all_any k U W (hL.rw U (by simp)) (by omega))
  rw [← hA] at CT
  rw [← hB] at CU
  clear hz hr hr2 hA hB hn hm
  go_enter Tryd.func3, Tryd.ntmps3
  go_upto_region 1 with fail
  obtain ⟨W1, hW1⟩ : ∃ W1, W1 = w.alloc (.cells #[.int .i64 k.ph, .int .i64 k.ep, .bool k.mj, .slice k.wk.a k.wk.n k.wk.c, .bool k.ov, .int .i64 k.pa, .int .i64 k.pf, .int .i64 k.ps, .int .i64 k.pc, .bool k.me] 24) := ⟨_, rfl⟩
  have L1 : Hid (Lb w W1 [(w.heap.size, kv k)] [] [U, T]) := Lib.hid (by
    have l := (((lb_none w).rows (T := T) HR.out.1).rows (T := U) HR.out.2).lay (kv k) 24
    rw [hW1]
    exact l)
  rw [← hW1]
  clear hW1
  go_upto_region 6 with (first
    | ((go_at_call 4); (with_reducible refine (Ha.awake_any _ (L1.out.over HZ.out)).mono ?_); rintro e9 w1 ⟨rfl, hb9⟩; have L2 := Lib.hid (L1.out.next hb9); clear hb9)
    | (refine w_load (ldKb (L2.out.bx w.heap.size (kv k) (by simp))) rfl rfl rfl rfl ?_)
    | ((go_at_call 5); (with_reducible refine (CT.out _ L2.out).mono ?_); rintro e9 w2 ⟨rfl, hb9⟩; have L3 := Lib.hid (L2.out.next hb9); clear hb9)
    | (refine w_load (ldKb (L3.out.bx w.heap.size (kv k) (by simp))) rfl rfl rfl rfl ?_)
    | ((go_at_call 5); (with_reducible refine (CU.out _ L3.out).mono ?_); rintro e9 w3 ⟨rfl, hb9⟩; have L4 := Lib.hid (L3.out.next hb9); clear hb9))
  go_upto_region 6 with fail
  refine Sh.region_gen fun a0 ha0 => ?_
  have G1 : a0.tmps[1]? = some (.slice T.s.a T.s.n T.s.c) := by rw [ha0]; rfl
  have G2 : a0.tmps[2]? = some (.slice U.s.a U.s.n U.s.c) := by rw [ha0]; rfl
  have G3 : a0.tmps[3]? = some (.pointer (some ⟨w.heap.size, 0, none⟩)) := by rw [ha0]; rfl
  have TZ : a0.tmps.size = 86 := by rw [ha0]; rfl
  have HA := Lib.hid ha0
  clear ha0
  refine region_planK (by kernel_rfl) (by kernel_rfl) (by rw [TZ]; kernel_rfl) (fun (x : Ls.Sl × Ls.Sl) (i : Nat) => (match i with | 0 => (.agg #[.int .i64 k.ph, .int .i64 k.ep, .bool k.mj, .slice k.wk.a k.wk.n k.wk.c, .bool k.ov, .int .i64 k.pa, .int .i64 k.pf, .int .i64 k.ps, .int .i64 k.pc, .bool k.me]) | 1 => .slice T.s.a T.s.n T.s.c | 2 => .slice x.1.a T.s.n x.1.c | 3 => .slice U.s.a U.s.n U.s.c | 4 => .slice x.2.a (T.s.n + U.s.n) x.2.c | 5 => .bool (A && B) | 6 => .bool (A && B) | _ => undef : Value)) (fun _ => false) ?zeroA (fun x l W => Ap w3 T U x l W) (⟨none, 0, 0⟩, ⟨none, 0, 0⟩) ?startA ?wantA ?skipA ?stepA ?doneA
  case zeroA => exact fun _ _ h => by cases h
  case startA => exact ap_start
  case skipA => exact fun i l x W h _ => by cases h
  case wantA =>
    rintro i o9 l a9 x ho hP haft
    have hi : i < 7 := (Array.getElem?_eq_some_iff.1 ho).1
    rcases (show i = 0 ∨ i = 1 ∨ i = 2 ∨ i = 3 ∨ i = 4 ∨ i = 5 ∨ i = 6 by omega) with rfl | rfl | rfl | rfl | rfl | rfl | rfl
    · obtain rfl := Option.some.inj ho
      rfl
    · obtain rfl := Option.some.inj ho
      rfl
    · obtain rfl := Option.some.inj ho
      rfl
    · obtain rfl := Option.some.inj ho
      rfl
    · obtain rfl := Option.some.inj ho
      rfl
    · obtain rfl := Option.some.inj ho
      rfl
    · obtain rfl := Option.some.inj ho
      rfl
  case stepA =>
    rintro i o9 l a9 x W9 ho hP hkp hcd hI hl hsk haft K hK
    have hi : i < 7 := (Array.getElem?_eq_some_iff.1 ho).1
    rcases (show i = 0 ∨ i = 1 ∨ i = 2 ∨ i = 3 ∨ i = 4 ∨ i = 5 ∨ i = 6 by omega) with rfl | rfl | rfl | rfl | rfl | rfl | rfl
    · clear hsk
      obtain rfl := Option.some.inj ho
      have q3 := (hP.keep (j := 3) (by kernel_rfl)).trans G3
      exact Mu.p_load rfl (Mu.ev q3) (ldKb ((L4.out.next hI.bel).bx w.heap.size (kv k) (by simp))) (hK x _ (fun _ _ => rfl) (hI.pure (i := 0) (by decide)))
    · clear hsk
      obtain rfl := Option.some.inj ho
      have q1 := (hP.keep (j := 1) (by kernel_rfl)).trans G1
      go_simp
      exact hK x _ (fun _ _ => rfl) (hI.pure (i := 1) (by decide))
    · clear hsk
      obtain rfl := Option.some.inj ho
      have e1 := hP.got 1 _ 34 rfl (haft ⟨1, .data⟩ (by simp) rfl) rfl
      try dsimp only at e1
      refine p_tcat _ _ rfl (p := none) (m := 0) (cp := 0) rfl (Mu.ev e1) (World.ownsRow_nil W9 w3.heap.size _ _) ((L4.out.next hI.bel).rw T (by simp)) hI.bel.size (by have := NN.out.1; omega) ?_
      intro v w9 ho9 hg9
      obtain ⟨u, rfl, hb9, hw9⟩ := hI.one ho9 hg9
      refine hK ⟨u, x.2⟩ _ ?_ (hw9 hl)
      intro j hj
      match j, hj with
      | 0, hj => rfl
      | 1, hj => rfl
      | 2, hj => rw [hl] at hj; cases hj
      | 3, hj => rfl
      | 4, hj => rfl
      | 5, hj => rfl
      | 6, hj => rfl
      | j + 7, _ => rfl
    · clear hsk
      obtain rfl := Option.some.inj ho
      have q2 := (hP.keep (j := 2) (by kernel_rfl)).trans G2
      go_simp
      exact hK x _ (fun _ _ => rfl) (hI.pure (i := 3) (by decide))
    · clear hsk
      obtain rfl := Option.some.inj ho
      have h2 := haft ⟨2, .data⟩ (by simp) rfl
      have e2 := hP.got 2 _ 35 rfl h2 rfl
      have e3 := hP.got 3 _ 36 rfl (haft ⟨3, .data⟩ (by simp) rfl) rfl
      try dsimp only at e2 e3
      refine p_tcat _ _ rfl (Mu.ev e2) (Mu.ev e3) (hI.a h2 hl) ((L4.out.next hI.bel).rw U (by simp)) hI.bel.size (by have := NN.out.1; have := NN.out.2; omega) ?_
      intro v w9 ho9 hg9
      obtain ⟨u, rfl, hw9⟩ := hI.two h2 hl ho9 hg9
      refine hK ⟨x.1, u⟩ _ ?_ hw9
      intro j hj
      match j, hj with
      | 0, hj => rfl
      | 1, hj => rfl
      | 2, hj => rfl
      | 3, hj => rfl
      | 4, hj => rw [hl] at hj; cases hj
      | 5, hj => rfl
      | 6, hj => rfl
      | j + 7, _ => rfl
    · clear hsk
      obtain rfl := Option.some.inj ho
      have h4 := haft ⟨4, .data⟩ (by simp) rfl
      have e0 := hP.got 0 _ 33 rfl (haft ⟨0, .data⟩ (by simp) rfl) rfl
      have e4 := hP.got 4 _ 37 rfl h4 rfl
      try dsimp only at e0 e4
      go_simp
      refine (all_any k ⟨⟨x.2.a, T.s.n + U.s.n, x.2.c⟩, cat T.g T.s.n U.g⟩ W9 (hI.b h4) (by have := NN.out.1; have := NN.out.2; show T.s.n + U.s.n ≤ 1000000; omega)).mono ?_
      rintro e9 w9 ⟨he9, hb9⟩
      rw [all_cat k.ph k.ep T.g U.g T.s.n U.s.n T.s U.s _ rfl rfl rfl, ← EA.out, ← EB.out] at he9
      subst he9
      exact hK x _ (fun _ _ => rfl) ((hI.next hb9).pure (i := 5) (by decide))
    · clear hsk
      obtain rfl := Option.some.inj ho
      have e5 := hP.got 5 _ 38 rfl (haft ⟨5, .data⟩ (by simp) rfl) rfl
      try dsimp only at e5
      go_simp
      exact hK x _ (fun _ _ => rfl) (hI.pure (i := 6) (by decide))
  case doneA =>
    rintro l a9 x W9 hP hI hall
    have L5 := Lib.hid (L4.out.next hI.bel)
    obtain rfl := pl_full hP (by rw [TZ]; kernel_rfl) hall [some 33, some 34, some 35, some 36, some 37, some 38, some 10] (by rfl)
    clear hP hI hall TZ G1 G2 G3
    rw [HA.out]
    simp only [putD, Act.put, List.setIfInBounds_toArray, List.set_cons_succ, List.set_cons_zero]
    clear HA
    obtain ⟨x1, hx1⟩ : ∃ x1, x1 = x.1 := ⟨_, rfl⟩
    obtain ⟨x2, hx2⟩ : ∃ x2, x2 = x.2 := ⟨_, rfl⟩
    rw [← hx1, ← hx2]
    clear hx1 hx2
    go_wp2
    go_loopw [11, 12] (fun e i wr => ∃ q : Nat, q ≤ T.s.n ∧ e = .bool (!anyB (openB k.ph k.ep) T.g q) ∧ i = .int .i64 q ∧ Hid (Lb w wr [(w.heap.size, kv k)] [] [U, T])) (fun _ i _ => T.s.n - (intOf i).toNat)
    case atStart => exact ⟨0, Nat.zero_le _, rfl, rfl, L5⟩
    case round =>
      obtain ⟨q, hq, rfl, rfl, R⟩ := hrel
      by_cases hlt : q < T.s.n
      · have hltz : (q : Int) < (T.s.n : Int) := by omega
        have hq6 : T.s.n ≤ 6 := NN.out.1
        obtain ⟨b, off, ea, _, _⟩ := HR.out.1 (by omega)
        have CO := Lib.hid (fun (x : Nat) W (hr : TRow W W.heap.size (some ⟨x, 0, none⟩) 1 (fun _ => T.g q)) => all_any k ⟨⟨some ⟨x, 0, none⟩, 1, 1⟩, fun _ => T.g q⟩ W hr (show 1 ≤ 1000000 by decide))
        have CE := Lib.hid (fun x : Nat => all_one k.ph k.ep ⟨some ⟨x, 0, none⟩, 1, 1⟩ (T.g q) rfl)
        have HS := Lib.hid (any_succ (openB k.ph k.ep) T.g q)
        obtain ⟨z, hz⟩ : ∃ z, z = (openB k.ph k.ep) (T.g q) := ⟨_, rfl⟩
        have HZ2 := Lib.hid hz
        rw [← hz] at CE HS
        clear hz
        obtain ⟨E, hE⟩ : ∃ E, E = !anyB (openB k.ph k.ep) T.g q := ⟨_, rfl⟩
        have HE := Lib.hid hE
        rw [← hE]
        clear hE
        cases E with
        | false =>
          go_upto_region 11 with fail
          refine Sh.region_gen fun a0 ha0 => ?_
          have G1 : a0.tmps[1]? = some (.slice (some ⟨b, off, none⟩) T.s.n T.s.c) := by rw [ha0]; rw [← ea]; rfl
          have G3 : a0.tmps[3]? = some (.pointer (some ⟨w.heap.size, 0, none⟩)) := by rw [ha0]; rfl
          have G12 : a0.tmps[12]? = some (.int .i64 (q : Int)) := by rw [ha0]; rfl
          have G11 : a0.tmps[11]? = some (.bool false) := by rw [ha0]; rfl
          have TZ : a0.tmps.size = 86 := by rw [ha0]; rfl
          have HA := Lib.hid ha0
          clear ha0
          refine region_planK (by kernel_rfl) (by kernel_rfl) (by rw [TZ]; kernel_rfl) (fun (x : Nat) (i : Nat) => (match i with | 0 => .bool false | 1 => .bool false | 2 => undef | 3 => undef | 4 => undef | 5 => undef | 6 => undef | 7 => undef | 8 => undef | 9 => .bool false | 10 => .bool false | _ => undef : Value)) (fun (i : Nat) => match i with | 2 => true | 3 => true | 4 => true | 5 => true | 6 => true | 7 => true | 8 => true | _ => false) ?zeroEf (fun x l W => On w k T U q 99 x l W) 0 ?startEf ?wantEf ?skipEf ?stepEf ?doneEf
          case zeroEf =>
            intro _ i h
            match i, h with
            | 0, h => first | rfl | cases h
            | 1, h => first | rfl | cases h
            | 2, h => first | rfl | cases h
            | 3, h => first | rfl | cases h
            | 4, h => first | rfl | cases h
            | 5, h => first | rfl | cases h
            | 6, h => first | rfl | cases h
            | 7, h => first | rfl | cases h
            | 8, h => first | rfl | cases h
            | 9, h => first | rfl | cases h
            | 10, h => first | rfl | cases h
            | i + 11, h => cases h
          case startEf => exact on_start (R.out.next ⟨rfl, rfl, rfl, Nat.le_refl _, fun _ _ => rfl⟩)
          case skipEf => exact fun i l x W hk h => h.pure (by intro e; subst e; cases hk)
          case wantEf =>
            rintro i o9 l a9 x ho hP haft
            have hi : i < 11 := (Array.getElem?_eq_some_iff.1 ho).1
            rcases (show i = 0 ∨ i = 1 ∨ i = 2 ∨ i = 3 ∨ i = 4 ∨ i = 5 ∨ i = 6 ∨ i = 7 ∨ i = 8 ∨ i = 9 ∨ i = 10 by omega) with rfl | rfl | rfl | rfl | rfl | rfl | rfl | rfl | rfl | rfl | rfl
            · obtain rfl := Option.some.inj ho
              rfl
            · obtain rfl := Option.some.inj ho
              rfl
            · obtain rfl := Option.some.inj ho
              have h11 := hP.got 1 _ 46 rfl (haft ⟨1, .guard⟩ (by simp) rfl) rfl
              try dsimp only at h11
              simp [Region.wanted, yielded, h11]
            · obtain rfl := Option.some.inj ho
              have h11 := hP.got 1 _ 46 rfl (haft ⟨1, .guard⟩ (by simp) rfl) rfl
              try dsimp only at h11
              simp [Region.wanted, yielded, h11]
            · obtain rfl := Option.some.inj ho
              have h11 := hP.got 1 _ 46 rfl (haft ⟨1, .guard⟩ (by simp) rfl) rfl
              try dsimp only at h11
              simp [Region.wanted, yielded, h11]
            · obtain rfl := Option.some.inj ho
              have h11 := hP.got 1 _ 46 rfl (haft ⟨1, .guard⟩ (by simp) rfl) rfl
              try dsimp only at h11
              simp [Region.wanted, yielded, h11]
            · obtain rfl := Option.some.inj ho
              have h11 := hP.got 1 _ 46 rfl (haft ⟨1, .guard⟩ (by simp) rfl) rfl
              try dsimp only at h11
              simp [Region.wanted, yielded, h11]
            · obtain rfl := Option.some.inj ho
              have h11 := hP.got 1 _ 46 rfl (haft ⟨1, .guard⟩ (by simp) rfl) rfl
              try dsimp only at h11
              simp [Region.wanted, yielded, h11]
            · obtain rfl := Option.some.inj ho
              have h11 := hP.got 1 _ 46 rfl (haft ⟨1, .guard⟩ (by simp) rfl) rfl
              try dsimp only at h11
              simp [Region.wanted, yielded, h11]
            · obtain rfl := Option.some.inj ho
              rfl
            · obtain rfl := Option.some.inj ho
              rfl
          case stepEf =>
            rintro i o9 l a9 x W9 ho hP hkp hcd hI hl hsk haft K hK
            have hi : i < 11 := (Array.getElem?_eq_some_iff.1 ho).1
            rcases (show i = 0 ∨ i = 1 ∨ i = 2 ∨ i = 3 ∨ i = 4 ∨ i = 5 ∨ i = 6 ∨ i = 7 ∨ i = 8 ∨ i = 9 ∨ i = 10 by omega) with rfl | rfl | rfl | rfl | rfl | rfl | rfl | rfl | rfl | rfl | rfl
            · clear hsk
              obtain rfl := Option.some.inj ho
              have q11 := (hkp 10 _ 11 rfl (by cases e : l 10 with | false => rfl | true => rw [hcd 1 _ rfl (hcd 9 _ rfl (hcd 10 _ rfl e ⟨9, .data⟩ (by simp) rfl) ⟨1, .data⟩ (by simp) rfl) ⟨0, .data⟩ (by simp) rfl] at hl; cases hl) rfl).trans G11
              go_simp
              exact hK x _ (fun _ _ => rfl) (hI.pure (by decide : ¬ 0 = 99))
            · clear hsk
              obtain rfl := Option.some.inj ho
              have e0 := hP.got 0 _ 45 rfl (haft ⟨0, .data⟩ (by simp) rfl) rfl
              try dsimp only at e0
              go_simp
              exact hK x _ (fun _ _ => rfl) (hI.pure (by decide : ¬ 1 = 99))
            · cases hsk
            · cases hsk
            · cases hsk
            · cases hsk
            · cases hsk
            · cases hsk
            · cases hsk
            · clear hsk
              obtain rfl := Option.some.inj ho
              have e1 := hP.got 1 _ 46 rfl (haft ⟨1, .data⟩ (by simp) rfl) rfl
              try dsimp only at e1
              go_simp
              exact hK x _ (fun _ _ => rfl) (hI.pure (by decide : ¬ 9 = 99))
            · clear hsk
              obtain rfl := Option.some.inj ho
              have h9 := haft ⟨9, .data⟩ (by simp) rfl
              have e9 := hP.got 9 _ 54 rfl h9 rfl
              try dsimp only at e9
              go_simp
              exact hK x _ (fun _ _ => rfl) (hI.pure (by decide : ¬ 10 = 99))
          case doneEf =>
            rintro l a9 x W9 hP hI hall
            have R2 := Lib.hid hI.lb
            obtain rfl := pl_full hP (by rw [TZ]; kernel_rfl) hall [some 45, some 46, some 47, some 48, some 49, some 50, some 51, some 52, some 53, some 54, some 11] (by rfl)
            clear hP hI hall TZ G1 G3 G12 G11
            rw [HA.out]
            simp only [putD, Act.put, List.setIfInBounds_toArray, List.set_cons_succ, List.set_cons_zero]
            clear HA
            have HN := Lib.hid (show (false) = !anyB (openB k.ph k.ep) T.g (q + 1) from step_f HS.out HE.out)
            cases hlv : (T.g q).lv with
            | true =>
              have LV := Lib.hid hlv
              clear hlv
              go_upto_region 12 with fail
              refine Sh.region_gen fun a0 ha0 => ?_
              have G1 : a0.tmps[1]? = some (.slice (some ⟨b, off, none⟩) T.s.n T.s.c) := by rw [ha0]; rw [← ea]; rfl
              have G3 : a0.tmps[3]? = some (.pointer (some ⟨w.heap.size, 0, none⟩)) := by rw [ha0]; rfl
              have G12 : a0.tmps[12]? = some (.int .i64 (q : Int)) := by rw [ha0]; rfl
              have TZ : a0.tmps.size = 86 := by rw [ha0]; rfl
              have HA := Lib.hid ha0
              clear ha0
              refine region_planK (by kernel_rfl) (by kernel_rfl) (by rw [TZ]; kernel_rfl) (fun (x : Nat) (i : Nat) => (match i with | 0 => .slice (some ⟨b, off, none⟩) T.s.n T.s.c | 1 => .int .i64 (q : Int) | 2 => .pointer (some ⟨b, off + q * 15, none⟩) | 3 => .pointer (some ⟨b, off + q * 15, none⟩) | 4 => .bool true | 5 => .bool false | 6 => .bool false | 7 => undef | 8 => undef | 9 => undef | 10 => undef | 11 => undef | 12 => undef | 13 => undef | 14 => undef | 15 => .bool false | _ => undef : Value)) (fun (i : Nat) => match i with | 7 => true | 8 => true | 9 => true | 10 => true | 11 => true | 12 => true | 13 => true | 14 => true | _ => false) ?zeroLft (fun x l W => On w k T U q 99 x l W) 0 ?startLft ?wantLft ?skipLft ?stepLft ?doneLft
              case zeroLft =>
                intro _ i h
                match i, h with
                | 0, h => first | rfl | cases h
                | 1, h => first | rfl | cases h
                | 2, h => first | rfl | cases h
                | 3, h => first | rfl | cases h
                | 4, h => first | rfl | cases h
                | 5, h => first | rfl | cases h
                | 6, h => first | rfl | cases h
                | 7, h => first | rfl | cases h
                | 8, h => first | rfl | cases h
                | 9, h => first | rfl | cases h
                | 10, h => first | rfl | cases h
                | 11, h => first | rfl | cases h
                | 12, h => first | rfl | cases h
                | 13, h => first | rfl | cases h
                | 14, h => first | rfl | cases h
                | 15, h => first | rfl | cases h
                | i + 16, h => cases h
              case startLft => exact on_start (R2.out.next ⟨rfl, rfl, rfl, Nat.le_refl _, fun _ _ => rfl⟩)
              case skipLft => exact fun i l x W hk h => h.pure (by intro e; subst e; cases hk)
              case wantLft =>
                rintro i o9 l a9 x ho hP haft
                have hi : i < 16 := (Array.getElem?_eq_some_iff.1 ho).1
                rcases (show i = 0 ∨ i = 1 ∨ i = 2 ∨ i = 3 ∨ i = 4 ∨ i = 5 ∨ i = 6 ∨ i = 7 ∨ i = 8 ∨ i = 9 ∨ i = 10 ∨ i = 11 ∨ i = 12 ∨ i = 13 ∨ i = 14 ∨ i = 15 by omega) with rfl | rfl | rfl | rfl | rfl | rfl | rfl | rfl | rfl | rfl | rfl | rfl | rfl | rfl | rfl | rfl
                · obtain rfl := Option.some.inj ho
                  rfl
                · obtain rfl := Option.some.inj ho
                  rfl
                · obtain rfl := Option.some.inj ho
                  rfl
                · obtain rfl := Option.some.inj ho
                  rfl
                · obtain rfl := Option.some.inj ho
                  rfl
                · obtain rfl := Option.some.inj ho
                  rfl
                · obtain rfl := Option.some.inj ho
                  rfl
                · obtain rfl := Option.some.inj ho
                  have h11 := hP.got 6 _ 61 rfl (haft ⟨6, .guard⟩ (by simp) rfl) rfl
                  try dsimp only at h11
                  simp [Region.wanted, yielded, h11]
                · obtain rfl := Option.some.inj ho
                  have h11 := hP.got 6 _ 61 rfl (haft ⟨6, .guard⟩ (by simp) rfl) rfl
                  try dsimp only at h11
                  simp [Region.wanted, yielded, h11]
                · obtain rfl := Option.some.inj ho
                  have h11 := hP.got 6 _ 61 rfl (haft ⟨6, .guard⟩ (by simp) rfl) rfl
                  try dsimp only at h11
                  simp [Region.wanted, yielded, h11]
                · obtain rfl := Option.some.inj ho
                  have h11 := hP.got 6 _ 61 rfl (haft ⟨6, .guard⟩ (by simp) rfl) rfl
                  try dsimp only at h11
                  simp [Region.wanted, yielded, h11]
                · obtain rfl := Option.some.inj ho
                  have h11 := hP.got 6 _ 61 rfl (haft ⟨6, .guard⟩ (by simp) rfl) rfl
                  try dsimp only at h11
                  simp [Region.wanted, yielded, h11]
                · obtain rfl := Option.some.inj ho
                  have h11 := hP.got 6 _ 61 rfl (haft ⟨6, .guard⟩ (by simp) rfl) rfl
                  try dsimp only at h11
                  simp [Region.wanted, yielded, h11]
                · obtain rfl := Option.some.inj ho
                  have h11 := hP.got 6 _ 61 rfl (haft ⟨6, .guard⟩ (by simp) rfl) rfl
                  try dsimp only at h11
                  simp [Region.wanted, yielded, h11]
                · obtain rfl := Option.some.inj ho
                  have h11 := hP.got 6 _ 61 rfl (haft ⟨6, .guard⟩ (by simp) rfl) rfl
                  try dsimp only at h11
                  simp [Region.wanted, yielded, h11]
                · obtain rfl := Option.some.inj ho
                  rfl
              case stepLft =>
                rintro i o9 l a9 x W9 ho hP hkp hcd hI hl hsk haft K hK
                have hi : i < 16 := (Array.getElem?_eq_some_iff.1 ho).1
                rcases (show i = 0 ∨ i = 1 ∨ i = 2 ∨ i = 3 ∨ i = 4 ∨ i = 5 ∨ i = 6 ∨ i = 7 ∨ i = 8 ∨ i = 9 ∨ i = 10 ∨ i = 11 ∨ i = 12 ∨ i = 13 ∨ i = 14 ∨ i = 15 by omega) with rfl | rfl | rfl | rfl | rfl | rfl | rfl | rfl | rfl | rfl | rfl | rfl | rfl | rfl | rfl | rfl
                · clear hsk
                  obtain rfl := Option.some.inj ho
                  have q1 := (hP.keep (j := 1) (by kernel_rfl)).trans G1
                  go_simp
                  exact hK x _ (fun _ _ => rfl) (hI.pure (by decide : ¬ 0 = 99))
                · clear hsk
                  obtain rfl := Option.some.inj ho
                  have q12 := (hP.keep (j := 12) (by kernel_rfl)).trans G12
                  go_simp
                  exact hK x _ (fun _ _ => rfl) (hI.pure (by decide : ¬ 1 = 99))
                · clear hsk
                  obtain rfl := Option.some.inj ho
                  have e0 := hP.got 0 _ 55 rfl (haft ⟨0, .data⟩ (by simp) rfl) rfl
                  have e1 := hP.got 1 _ 56 rfl (haft ⟨1, .data⟩ (by simp) rfl) rfl
                  try dsimp only at e0 e1
                  go_simp
                  exact hK x _ (fun _ _ => rfl) (hI.pure (by decide : ¬ 2 = 99))
                · clear hsk
                  obtain rfl := Option.some.inj ho
                  have e2 := hP.got 2 _ 57 rfl (haft ⟨2, .data⟩ (by simp) rfl) rfl
                  try dsimp only at e2
                  go_simp
                  exact hK x _ (fun _ _ => rfl) (hI.pure (by decide : ¬ 3 = 99))
                · clear hsk
                  obtain rfl := Option.some.inj ho
                  have e3 := hP.got 3 _ 58 rfl (haft ⟨3, .data⟩ (by simp) rfl) rfl
                  try dsimp only at e3
                  have c9 := TRow.cel (v := .bool true) (hI.lb.rw T (by simp)) ea hlt (by rw [← LV.out]; rfl)
                  go_simp
                  exact hK x _ (fun _ _ => rfl) (hI.pure (by decide : ¬ 4 = 99))
                · clear hsk
                  obtain rfl := Option.some.inj ho
                  have e4 := hP.got 4 _ 59 rfl (haft ⟨4, .data⟩ (by simp) rfl) rfl
                  try dsimp only at e4
                  go_simp
                  exact hK x _ (fun _ _ => rfl) (hI.pure (by decide : ¬ 5 = 99))
                · clear hsk
                  obtain rfl := Option.some.inj ho
                  have e5 := hP.got 5 _ 60 rfl (haft ⟨5, .data⟩ (by simp) rfl) rfl
                  try dsimp only at e5
                  go_simp
                  exact hK x _ (fun _ _ => rfl) (hI.pure (by decide : ¬ 6 = 99))
                · cases hsk
                · cases hsk
                · cases hsk
                · cases hsk
                · cases hsk
                · cases hsk
                · cases hsk
                · cases hsk
                · clear hsk
                  obtain rfl := Option.some.inj ho
                  have e6 := hP.got 6 _ 61 rfl (haft ⟨6, .data⟩ (by simp) rfl) rfl
                  try dsimp only at e6
                  go_simp
                  exact hK x _ (fun _ _ => rfl) (hI.pure (by decide : ¬ 15 = 99))
              case doneLft =>
                rintro l a9 x W9 hP hI hall
                have R3 := Lib.hid hI.lb
                obtain rfl := pl_full hP (by rw [TZ]; kernel_rfl) hall [some 55, some 56, some 57, some 58, some 59, some 60, some 61, some 62, some 63, some 64, some 65, some 66, some 67, some 68, some 69, some 70] (by rfl)
                clear hP hI hall TZ G1 G3 G12
                rw [HA.out]
                simp only [putD, Act.put, List.setIfInBounds_toArray, List.set_cons_succ, List.set_cons_zero]
                clear HA
                go_wp2
                go_roundw
                case rel => exact ⟨q + 1, by omega, by rw [← HN.out], by go_num, R3⟩
                case measure => simp [intOf]; omega
            | false =>
              have LV := Lib.hid hlv
              have hz0 : z = false := by rw [HZ2.out]; unfold openB; rw [hlv]; rfl
              clear hlv
              subst hz0
              go_upto_region 12 with fail
              refine Sh.region_gen fun a0 ha0 => ?_
              have G1 : a0.tmps[1]? = some (.slice (some ⟨b, off, none⟩) T.s.n T.s.c) := by rw [ha0]; rw [← ea]; rfl
              have G3 : a0.tmps[3]? = some (.pointer (some ⟨w.heap.size, 0, none⟩)) := by rw [ha0]; rfl
              have G12 : a0.tmps[12]? = some (.int .i64 (q : Int)) := by rw [ha0]; rfl
              have TZ : a0.tmps.size = 86 := by rw [ha0]; rfl
              have HA := Lib.hid ha0
              clear ha0
              refine region_planK (by kernel_rfl) (by kernel_rfl) (by rw [TZ]; kernel_rfl) (fun (x : Nat) (i : Nat) => (match i with | 0 => .slice (some ⟨b, off, none⟩) T.s.n T.s.c | 1 => .int .i64 (q : Int) | 2 => .pointer (some ⟨b, off + q * 15, none⟩) | 3 => .pointer (some ⟨b, off + q * 15, none⟩) | 4 => .bool false | 5 => .bool true | 6 => .bool true | 7 => (.agg #[.int .i64 k.ph, .int .i64 k.ep, .bool k.mj, .slice k.wk.a k.wk.n k.wk.c, .bool k.ov, .int .i64 k.pa, .int .i64 k.pf, .int .i64 k.ps, .int .i64 k.pc, .bool k.me]) | 8 => .slice (some ⟨b, off, none⟩) T.s.n T.s.c | 9 => .int .i64 (q : Int) | 10 => .pointer (some ⟨b, off + q * 15, none⟩) | 11 => (.agg #[.bool (T.g q).lv, .int .i64 ((T.g q).r 0), .int .i64 ((T.g q).r 1), .int .i64 ((T.g q).r 2), .int .i64 ((T.g q).r 3), .slice ((T.g q).u 0).a ((T.g q).u 0).n ((T.g q).u 0).c, .slice ((T.g q).u 1).a ((T.g q).u 1).n ((T.g q).u 1).c, .slice ((T.g q).u 2).a ((T.g q).u 2).n ((T.g q).u 2).c, .int .i64 (T.g q).ep, .int .i64 (T.g q).sg, .int .i64 (T.g q).rt, .slice (T.g q).o.a (T.g q).o.n (T.g q).o.c, .int .i64 (T.g q).pc, .int .i64 (T.g q).x, .int .i64 (T.g q).y]) | 12 => .slice (some ⟨x, 0, none⟩) 1 1 | 13 => .bool (!false) | 14 => .bool false | 15 => .bool false | _ => undef : Value)) (fun _ => false) ?zeroLff (fun x l W => On w k T U q 12 x l W) 0 ?startLff ?wantLff ?skipLff ?stepLff ?doneLff
              case zeroLff => exact fun _ _ h => by cases h
              case startLff => exact on_start (R2.out.next ⟨rfl, rfl, rfl, Nat.le_refl _, fun _ _ => rfl⟩)
              case skipLff => exact fun i l x W h _ => by cases h
              case wantLff =>
                rintro i o9 l a9 x ho hP haft
                have hi : i < 16 := (Array.getElem?_eq_some_iff.1 ho).1
                rcases (show i = 0 ∨ i = 1 ∨ i = 2 ∨ i = 3 ∨ i = 4 ∨ i = 5 ∨ i = 6 ∨ i = 7 ∨ i = 8 ∨ i = 9 ∨ i = 10 ∨ i = 11 ∨ i = 12 ∨ i = 13 ∨ i = 14 ∨ i = 15 by omega) with rfl | rfl | rfl | rfl | rfl | rfl | rfl | rfl | rfl | rfl | rfl | rfl | rfl | rfl | rfl | rfl
                · obtain rfl := Option.some.inj ho
                  rfl
                · obtain rfl := Option.some.inj ho
                  rfl
                · obtain rfl := Option.some.inj ho
                  rfl
                · obtain rfl := Option.some.inj ho
                  rfl
                · obtain rfl := Option.some.inj ho
                  rfl
                · obtain rfl := Option.some.inj ho
                  rfl
                · obtain rfl := Option.some.inj ho
                  rfl
                · obtain rfl := Option.some.inj ho
                  have h11 := hP.got 6 _ 61 rfl (haft ⟨6, .guard⟩ (by simp) rfl) rfl
                  try dsimp only at h11
                  simp [Region.wanted, yielded, h11]
                · obtain rfl := Option.some.inj ho
                  have h11 := hP.got 6 _ 61 rfl (haft ⟨6, .guard⟩ (by simp) rfl) rfl
                  try dsimp only at h11
                  simp [Region.wanted, yielded, h11]
                · obtain rfl := Option.some.inj ho
                  have h11 := hP.got 6 _ 61 rfl (haft ⟨6, .guard⟩ (by simp) rfl) rfl
                  try dsimp only at h11
                  simp [Region.wanted, yielded, h11]
                · obtain rfl := Option.some.inj ho
                  have h11 := hP.got 6 _ 61 rfl (haft ⟨6, .guard⟩ (by simp) rfl) rfl
                  try dsimp only at h11
                  simp [Region.wanted, yielded, h11]
                · obtain rfl := Option.some.inj ho
                  have h11 := hP.got 6 _ 61 rfl (haft ⟨6, .guard⟩ (by simp) rfl) rfl
                  try dsimp only at h11
                  simp [Region.wanted, yielded, h11]
                · obtain rfl := Option.some.inj ho
                  have h11 := hP.got 6 _ 61 rfl (haft ⟨6, .guard⟩ (by simp) rfl) rfl
                  try dsimp only at h11
                  simp [Region.wanted, yielded, h11]
                · obtain rfl := Option.some.inj ho
                  have h11 := hP.got 6 _ 61 rfl (haft ⟨6, .guard⟩ (by simp) rfl) rfl
                  try dsimp only at h11
                  simp [Region.wanted, yielded, h11]
                · obtain rfl := Option.some.inj ho
                  have h11 := hP.got 6 _ 61 rfl (haft ⟨6, .guard⟩ (by simp) rfl) rfl
                  try dsimp only at h11
                  simp [Region.wanted, yielded, h11]
                · obtain rfl := Option.some.inj ho
                  rfl
              case stepLff =>
                rintro i o9 l a9 x W9 ho hP hkp hcd hI hl hsk haft K hK
                have hi : i < 16 := (Array.getElem?_eq_some_iff.1 ho).1
                rcases (show i = 0 ∨ i = 1 ∨ i = 2 ∨ i = 3 ∨ i = 4 ∨ i = 5 ∨ i = 6 ∨ i = 7 ∨ i = 8 ∨ i = 9 ∨ i = 10 ∨ i = 11 ∨ i = 12 ∨ i = 13 ∨ i = 14 ∨ i = 15 by omega) with rfl | rfl | rfl | rfl | rfl | rfl | rfl | rfl | rfl | rfl | rfl | rfl | rfl | rfl | rfl | rfl
                · clear hsk
                  obtain rfl := Option.some.inj ho
                  have q1 := (hP.keep (j := 1) (by kernel_rfl)).trans G1
                  go_simp
                  exact hK x _ (fun _ _ => rfl) (hI.pure (by decide : ¬ 0 = 12))
                · clear hsk
                  obtain rfl := Option.some.inj ho
                  have q12 := (hP.keep (j := 12) (by kernel_rfl)).trans G12
                  go_simp
                  exact hK x _ (fun _ _ => rfl) (hI.pure (by decide : ¬ 1 = 12))
                · clear hsk
                  obtain rfl := Option.some.inj ho
                  have e0 := hP.got 0 _ 55 rfl (haft ⟨0, .data⟩ (by simp) rfl) rfl
                  have e1 := hP.got 1 _ 56 rfl (haft ⟨1, .data⟩ (by simp) rfl) rfl
                  try dsimp only at e0 e1
                  go_simp
                  exact hK x _ (fun _ _ => rfl) (hI.pure (by decide : ¬ 2 = 12))
                · clear hsk
                  obtain rfl := Option.some.inj ho
                  have e2 := hP.got 2 _ 57 rfl (haft ⟨2, .data⟩ (by simp) rfl) rfl
                  try dsimp only at e2
                  go_simp
                  exact hK x _ (fun _ _ => rfl) (hI.pure (by decide : ¬ 3 = 12))
                · clear hsk
                  obtain rfl := Option.some.inj ho
                  have e3 := hP.got 3 _ 58 rfl (haft ⟨3, .data⟩ (by simp) rfl) rfl
                  try dsimp only at e3
                  have c9 := TRow.cel (v := .bool false) (hI.lb.rw T (by simp)) ea hlt (by rw [← LV.out]; rfl)
                  go_simp
                  exact hK x _ (fun _ _ => rfl) (hI.pure (by decide : ¬ 4 = 12))
                · clear hsk
                  obtain rfl := Option.some.inj ho
                  have e4 := hP.got 4 _ 59 rfl (haft ⟨4, .data⟩ (by simp) rfl) rfl
                  try dsimp only at e4
                  go_simp
                  exact hK x _ (fun _ _ => rfl) (hI.pure (by decide : ¬ 5 = 12))
                · clear hsk
                  obtain rfl := Option.some.inj ho
                  have e5 := hP.got 5 _ 60 rfl (haft ⟨5, .data⟩ (by simp) rfl) rfl
                  try dsimp only at e5
                  go_simp
                  exact hK x _ (fun _ _ => rfl) (hI.pure (by decide : ¬ 6 = 12))
                · clear hsk
                  obtain rfl := Option.some.inj ho
                  have q3 := (hP.keep (j := 3) (by kernel_rfl)).trans G3
                  exact Mu.p_load rfl (Mu.ev q3) (ldKb (hI.lb.bx w.heap.size (kv k) (by simp))) (hK x _ (fun _ _ => rfl) (hI.pure (by decide : ¬ 7 = 12)))
                · clear hsk
                  obtain rfl := Option.some.inj ho
                  have q1 := (hP.keep (j := 1) (by kernel_rfl)).trans G1
                  go_simp
                  exact hK x _ (fun _ _ => rfl) (hI.pure (by decide : ¬ 8 = 12))
                · clear hsk
                  obtain rfl := Option.some.inj ho
                  have q12 := (hP.keep (j := 12) (by kernel_rfl)).trans G12
                  go_simp
                  exact hK x _ (fun _ _ => rfl) (hI.pure (by decide : ¬ 9 = 12))
                · clear hsk
                  obtain rfl := Option.some.inj ho
                  have e8 := hP.got 8 _ 63 rfl (haft ⟨8, .data⟩ (by simp) rfl) rfl
                  have e9 := hP.got 9 _ 64 rfl (haft ⟨9, .data⟩ (by simp) rfl) rfl
                  try dsimp only at e8 e9
                  go_simp
                  exact hK x _ (fun _ _ => rfl) (hI.pure (by decide : ¬ 10 = 12))
                · clear hsk
                  obtain rfl := Option.some.inj ho
                  have e10 := hP.got 10 _ 65 rfl (haft ⟨10, .data⟩ (by simp) rfl) rfl
                  try dsimp only at e10
                  exact Mu.p_load rfl (Mu.ev e10) (TRow.load (hI.lb.rw T (by simp)) ea hlt) (hK x _ (fun _ _ => rfl) (hI.pure (by decide : ¬ 11 = 12)))
                · clear hsk
                  obtain rfl := Option.some.inj ho
                  have e11 := hP.got 11 _ 66 rfl (haft ⟨11, .data⟩ (by simp) rfl) rfl
                  try dsimp only at e11
                  go_simp
                  refine hK W9.heap.size _ ?_ (hI.lay 33)
                  intro j hj
                  match j, hj with
                  | 0, hj => rfl
                  | 1, hj => rfl
                  | 2, hj => rfl
                  | 3, hj => rfl
                  | 4, hj => rfl
                  | 5, hj => rfl
                  | 6, hj => rfl
                  | 7, hj => rfl
                  | 8, hj => rfl
                  | 9, hj => rfl
                  | 10, hj => rfl
                  | 11, hj => rfl
                  | 12, hj => rw [hl] at hj; cases hj
                  | 13, hj => rfl
                  | 14, hj => rfl
                  | 15, hj => rfl
                  | j + 16, _ => rfl
                · clear hsk
                  obtain rfl := Option.some.inj ho
                  have e7 := hP.got 7 _ 62 rfl (haft ⟨7, .data⟩ (by simp) rfl) rfl
                  have h9 := haft ⟨12, .data⟩ (by simp) rfl
                  have e12 := hP.got 12 _ 67 rfl h9 rfl
                  try dsimp only at e7 e12
                  go_simp
                  refine (CO.out x W9 (hI.row h9)).mono ?_
                  rintro e9 w9 ⟨he9, hb9⟩
                  rw [CE.out x] at he9
                  subst he9
                  exact hK x _ (fun _ _ => rfl) ((hI.next hb9).pure (by decide : ¬ 13 = 12))
                · clear hsk
                  obtain rfl := Option.some.inj ho
                  have e13 := hP.got 13 _ 68 rfl (haft ⟨13, .data⟩ (by simp) rfl) rfl
                  try dsimp only at e13
                  go_simp
                  exact hK x _ (fun _ _ => rfl) (hI.pure (by decide : ¬ 14 = 12))
                · clear hsk
                  obtain rfl := Option.some.inj ho
                  have e6 := hP.got 6 _ 61 rfl (haft ⟨6, .data⟩ (by simp) rfl) rfl
                  have e14 := hP.got 14 _ 69 rfl (haft ⟨14, .data⟩ (by simp) rfl) rfl
                  try dsimp only at e6 e14
                  go_simp
                  exact hK x _ (fun _ _ => rfl) (hI.pure (by decide : ¬ 15 = 12))
              case doneLff =>
                rintro l a9 x W9 hP hI hall
                have R3 := Lib.hid hI.lb
                obtain rfl := pl_full hP (by rw [TZ]; kernel_rfl) hall [some 55, some 56, some 57, some 58, some 59, some 60, some 61, some 62, some 63, some 64, some 65, some 66, some 67, some 68, some 69, some 70] (by rfl)
                clear hP hI hall TZ G1 G3 G12
                rw [HA.out]
                simp only [putD, Act.put, List.setIfInBounds_toArray, List.set_cons_succ, List.set_cons_zero]
                clear HA
                go_wp2
                go_roundw
                case rel => exact ⟨q + 1, by omega, by rw [← HN.out], by go_num, R3⟩
                case measure => simp [intOf]; omega
        | true =>
          go_upto_region 11 with fail
          refine Sh.region_gen fun a0 ha0 => ?_
          have G1 : a0.tmps[1]? = some (.slice (some ⟨b, off, none⟩) T.s.n T.s.c) := by rw [ha0]; rw [← ea]; rfl
          have G3 : a0.tmps[3]? = some (.pointer (some ⟨w.heap.size, 0, none⟩)) := by rw [ha0]; rfl
          have G12 : a0.tmps[12]? = some (.int .i64 (q : Int)) := by rw [ha0]; rfl
          have G11 : a0.tmps[11]? = some (.bool true) := by rw [ha0]; rfl
          have TZ : a0.tmps.size = 86 := by rw [ha0]; rfl
          have HA := Lib.hid ha0
          clear ha0
          refine region_planK (by kernel_rfl) (by kernel_rfl) (by rw [TZ]; kernel_rfl) (fun (x : Nat) (i : Nat) => (match i with | 0 => .bool true | 1 => .bool true | 2 => (.agg #[.int .i64 k.ph, .int .i64 k.ep, .bool k.mj, .slice k.wk.a k.wk.n k.wk.c, .bool k.ov, .int .i64 k.pa, .int .i64 k.pf, .int .i64 k.ps, .int .i64 k.pc, .bool k.me]) | 3 => .slice (some ⟨b, off, none⟩) T.s.n T.s.c | 4 => .int .i64 (q : Int) | 5 => .pointer (some ⟨b, off + q * 15, none⟩) | 6 => (.agg #[.bool (T.g q).lv, .int .i64 ((T.g q).r 0), .int .i64 ((T.g q).r 1), .int .i64 ((T.g q).r 2), .int .i64 ((T.g q).r 3), .slice ((T.g q).u 0).a ((T.g q).u 0).n ((T.g q).u 0).c, .slice ((T.g q).u 1).a ((T.g q).u 1).n ((T.g q).u 1).c, .slice ((T.g q).u 2).a ((T.g q).u 2).n ((T.g q).u 2).c, .int .i64 (T.g q).ep, .int .i64 (T.g q).sg, .int .i64 (T.g q).rt, .slice (T.g q).o.a (T.g q).o.n (T.g q).o.c, .int .i64 (T.g q).pc, .int .i64 (T.g q).x, .int .i64 (T.g q).y]) | 7 => .slice (some ⟨x, 0, none⟩) 1 1 | 8 => .bool (!z) | 9 => .bool (!z) | 10 => .bool (!z) | _ => undef : Value)) (fun _ => false) ?zeroEt (fun x l W => On w k T U q 7 x l W) 0 ?startEt ?wantEt ?skipEt ?stepEt ?doneEt
          case zeroEt => exact fun _ _ h => by cases h
          case startEt => exact on_start (R.out.next ⟨rfl, rfl, rfl, Nat.le_refl _, fun _ _ => rfl⟩)
          case skipEt => exact fun i l x W h _ => by cases h
          case wantEt =>
            rintro i o9 l a9 x ho hP haft
            have hi : i < 11 := (Array.getElem?_eq_some_iff.1 ho).1
            rcases (show i = 0 ∨ i = 1 ∨ i = 2 ∨ i = 3 ∨ i = 4 ∨ i = 5 ∨ i = 6 ∨ i = 7 ∨ i = 8 ∨ i = 9 ∨ i = 10 by omega) with rfl | rfl | rfl | rfl | rfl | rfl | rfl | rfl | rfl | rfl | rfl
            · obtain rfl := Option.some.inj ho
              rfl
            · obtain rfl := Option.some.inj ho
              rfl
            · obtain rfl := Option.some.inj ho
              have h11 := hP.got 1 _ 46 rfl (haft ⟨1, .guard⟩ (by simp) rfl) rfl
              try dsimp only at h11
              simp [Region.wanted, yielded, h11]
            · obtain rfl := Option.some.inj ho
              have h11 := hP.got 1 _ 46 rfl (haft ⟨1, .guard⟩ (by simp) rfl) rfl
              try dsimp only at h11
              simp [Region.wanted, yielded, h11]
            · obtain rfl := Option.some.inj ho
              have h11 := hP.got 1 _ 46 rfl (haft ⟨1, .guard⟩ (by simp) rfl) rfl
              try dsimp only at h11
              simp [Region.wanted, yielded, h11]
            · obtain rfl := Option.some.inj ho
              have h11 := hP.got 1 _ 46 rfl (haft ⟨1, .guard⟩ (by simp) rfl) rfl
              try dsimp only at h11
              simp [Region.wanted, yielded, h11]
            · obtain rfl := Option.some.inj ho
              have h11 := hP.got 1 _ 46 rfl (haft ⟨1, .guard⟩ (by simp) rfl) rfl
              try dsimp only at h11
              simp [Region.wanted, yielded, h11]
            · obtain rfl := Option.some.inj ho
              have h11 := hP.got 1 _ 46 rfl (haft ⟨1, .guard⟩ (by simp) rfl) rfl
              try dsimp only at h11
              simp [Region.wanted, yielded, h11]
            · obtain rfl := Option.some.inj ho
              have h11 := hP.got 1 _ 46 rfl (haft ⟨1, .guard⟩ (by simp) rfl) rfl
              try dsimp only at h11
              simp [Region.wanted, yielded, h11]
            · obtain rfl := Option.some.inj ho
              rfl
            · obtain rfl := Option.some.inj ho
              rfl
          case stepEt =>
            rintro i o9 l a9 x W9 ho hP hkp hcd hI hl hsk haft K hK
            have hi : i < 11 := (Array.getElem?_eq_some_iff.1 ho).1
            rcases (show i = 0 ∨ i = 1 ∨ i = 2 ∨ i = 3 ∨ i = 4 ∨ i = 5 ∨ i = 6 ∨ i = 7 ∨ i = 8 ∨ i = 9 ∨ i = 10 by omega) with rfl | rfl | rfl | rfl | rfl | rfl | rfl | rfl | rfl | rfl | rfl
            · clear hsk
              obtain rfl := Option.some.inj ho
              have q11 := (hkp 10 _ 11 rfl (by cases e : l 10 with | false => rfl | true => rw [hcd 1 _ rfl (hcd 9 _ rfl (hcd 10 _ rfl e ⟨9, .data⟩ (by simp) rfl) ⟨1, .data⟩ (by simp) rfl) ⟨0, .data⟩ (by simp) rfl] at hl; cases hl) rfl).trans G11
              go_simp
              exact hK x _ (fun _ _ => rfl) (hI.pure (by decide : ¬ 0 = 7))
            · clear hsk
              obtain rfl := Option.some.inj ho
              have e0 := hP.got 0 _ 45 rfl (haft ⟨0, .data⟩ (by simp) rfl) rfl
              try dsimp only at e0
              go_simp
              exact hK x _ (fun _ _ => rfl) (hI.pure (by decide : ¬ 1 = 7))
            · clear hsk
              obtain rfl := Option.some.inj ho
              have q3 := (hP.keep (j := 3) (by kernel_rfl)).trans G3
              exact Mu.p_load rfl (Mu.ev q3) (ldKb (hI.lb.bx w.heap.size (kv k) (by simp))) (hK x _ (fun _ _ => rfl) (hI.pure (by decide : ¬ 2 = 7)))
            · clear hsk
              obtain rfl := Option.some.inj ho
              have q1 := (hP.keep (j := 1) (by kernel_rfl)).trans G1
              go_simp
              exact hK x _ (fun _ _ => rfl) (hI.pure (by decide : ¬ 3 = 7))
            · clear hsk
              obtain rfl := Option.some.inj ho
              have q12 := (hP.keep (j := 12) (by kernel_rfl)).trans G12
              go_simp
              exact hK x _ (fun _ _ => rfl) (hI.pure (by decide : ¬ 4 = 7))
            · clear hsk
              obtain rfl := Option.some.inj ho
              have e3 := hP.got 3 _ 48 rfl (haft ⟨3, .data⟩ (by simp) rfl) rfl
              have e4 := hP.got 4 _ 49 rfl (haft ⟨4, .data⟩ (by simp) rfl) rfl
              try dsimp only at e3 e4
              go_simp
              exact hK x _ (fun _ _ => rfl) (hI.pure (by decide : ¬ 5 = 7))
            · clear hsk
              obtain rfl := Option.some.inj ho
              have e5 := hP.got 5 _ 50 rfl (haft ⟨5, .data⟩ (by simp) rfl) rfl
              try dsimp only at e5
              exact Mu.p_load rfl (Mu.ev e5) (TRow.load (hI.lb.rw T (by simp)) ea hlt) (hK x _ (fun _ _ => rfl) (hI.pure (by decide : ¬ 6 = 7)))
            · clear hsk
              obtain rfl := Option.some.inj ho
              have e6 := hP.got 6 _ 51 rfl (haft ⟨6, .data⟩ (by simp) rfl) rfl
              try dsimp only at e6
              go_simp
              refine hK W9.heap.size _ ?_ (hI.lay 33)
              intro j hj
              match j, hj with
              | 0, hj => rfl
              | 1, hj => rfl
              | 2, hj => rfl
              | 3, hj => rfl
              | 4, hj => rfl
              | 5, hj => rfl
              | 6, hj => rfl
              | 7, hj => rw [hl] at hj; cases hj
              | 8, hj => rfl
              | 9, hj => rfl
              | 10, hj => rfl
              | j + 11, _ => rfl
            · clear hsk
              obtain rfl := Option.some.inj ho
              have e2 := hP.got 2 _ 47 rfl (haft ⟨2, .data⟩ (by simp) rfl) rfl
              have h9 := haft ⟨7, .data⟩ (by simp) rfl
              have e7 := hP.got 7 _ 52 rfl h9 rfl
              try dsimp only at e2 e7
              go_simp
              refine (CO.out x W9 (hI.row h9)).mono ?_
              rintro e9 w9 ⟨he9, hb9⟩
              rw [CE.out x] at he9
              subst he9
              exact hK x _ (fun _ _ => rfl) ((hI.next hb9).pure (by decide : ¬ 8 = 7))
            · clear hsk
              obtain rfl := Option.some.inj ho
              have e1 := hP.got 1 _ 46 rfl (haft ⟨1, .data⟩ (by simp) rfl) rfl
              have e8 := hP.got 8 _ 53 rfl (haft ⟨8, .data⟩ (by simp) rfl) rfl
              try dsimp only at e1 e8
              go_simp
              exact hK x _ (fun _ _ => rfl) (hI.pure (by decide : ¬ 9 = 7))
            · clear hsk
              obtain rfl := Option.some.inj ho
              have h9 := haft ⟨9, .data⟩ (by simp) rfl
              have e9 := hP.got 9 _ 54 rfl h9 rfl
              try dsimp only at e9
              go_simp
              exact hK x _ (fun _ _ => rfl) (hI.pure (by decide : ¬ 10 = 7))
          case doneEt =>
            rintro l a9 x W9 hP hI hall
            have R2 := Lib.hid hI.lb
            obtain rfl := pl_full hP (by rw [TZ]; kernel_rfl) hall [some 45, some 46, some 47, some 48, some 49, some 50, some 51, some 52, some 53, some 54, some 11] (by rfl)
            clear hP hI hall TZ G1 G3 G12 G11
            rw [HA.out]
            simp only [putD, Act.put, List.setIfInBounds_toArray, List.set_cons_succ, List.set_cons_zero]
            clear HA
            have HN := Lib.hid (show (!z) = !anyB (openB k.ph k.ep) T.g (q + 1) from step_t HS.out HE.out)
            cases hlv : (T.g q).lv with
            | true =>
              have LV := Lib.hid hlv
              clear hlv
              go_upto_region 12 with fail
              refine Sh.region_gen fun a0 ha0 => ?_
              have G1 : a0.tmps[1]? = some (.slice (some ⟨b, off, none⟩) T.s.n T.s.c) := by rw [ha0]; rw [← ea]; rfl
              have G3 : a0.tmps[3]? = some (.pointer (some ⟨w.heap.size, 0, none⟩)) := by rw [ha0]; rfl
              have G12 : a0.tmps[12]? = some (.int .i64 (q : Int)) := by rw [ha0]; rfl
              have TZ : a0.tmps.size = 86 := by rw [ha0]; rfl
              have HA := Lib.hid ha0
              clear ha0
              refine region_planK (by kernel_rfl) (by kernel_rfl) (by rw [TZ]; kernel_rfl) (fun (x : Nat) (i : Nat) => (match i with | 0 => .slice (some ⟨b, off, none⟩) T.s.n T.s.c | 1 => .int .i64 (q : Int) | 2 => .pointer (some ⟨b, off + q * 15, none⟩) | 3 => .pointer (some ⟨b, off + q * 15, none⟩) | 4 => .bool true | 5 => .bool false | 6 => .bool false | 7 => undef | 8 => undef | 9 => undef | 10 => undef | 11 => undef | 12 => undef | 13 => undef | 14 => undef | 15 => .bool false | _ => undef : Value)) (fun (i : Nat) => match i with | 7 => true | 8 => true | 9 => true | 10 => true | 11 => true | 12 => true | 13 => true | 14 => true | _ => false) ?zeroLtt (fun x l W => On w k T U q 99 x l W) 0 ?startLtt ?wantLtt ?skipLtt ?stepLtt ?doneLtt
              case zeroLtt =>
                intro _ i h
                match i, h with
                | 0, h => first | rfl | cases h
                | 1, h => first | rfl | cases h
                | 2, h => first | rfl | cases h
                | 3, h => first | rfl | cases h
                | 4, h => first | rfl | cases h
                | 5, h => first | rfl | cases h
                | 6, h => first | rfl | cases h
                | 7, h => first | rfl | cases h
                | 8, h => first | rfl | cases h
                | 9, h => first | rfl | cases h
                | 10, h => first | rfl | cases h
                | 11, h => first | rfl | cases h
                | 12, h => first | rfl | cases h
                | 13, h => first | rfl | cases h
                | 14, h => first | rfl | cases h
                | 15, h => first | rfl | cases h
                | i + 16, h => cases h
              case startLtt => exact on_start (R2.out.next ⟨rfl, rfl, rfl, Nat.le_refl _, fun _ _ => rfl⟩)
              case skipLtt => exact fun i l x W hk h => h.pure (by intro e; subst e; cases hk)
              case wantLtt =>
                rintro i o9 l a9 x ho hP haft
                have hi : i < 16 := (Array.getElem?_eq_some_iff.1 ho).1
                rcases (show i = 0 ∨ i = 1 ∨ i = 2 ∨ i = 3 ∨ i = 4 ∨ i = 5 ∨ i = 6 ∨ i = 7 ∨ i = 8 ∨ i = 9 ∨ i = 10 ∨ i = 11 ∨ i = 12 ∨ i = 13 ∨ i = 14 ∨ i = 15 by omega) with rfl | rfl | rfl | rfl | rfl | rfl | rfl | rfl | rfl | rfl | rfl | rfl | rfl | rfl | rfl | rfl
                · obtain rfl := Option.some.inj ho
                  rfl
                · obtain rfl := Option.some.inj ho
                  rfl
                · obtain rfl := Option.some.inj ho
                  rfl
                · obtain rfl := Option.some.inj ho
                  rfl
                · obtain rfl := Option.some.inj ho
                  rfl
                · obtain rfl := Option.some.inj ho
                  rfl
                · obtain rfl := Option.some.inj ho
                  rfl
                · obtain rfl := Option.some.inj ho
                  have h11 := hP.got 6 _ 61 rfl (haft ⟨6, .guard⟩ (by simp) rfl) rfl
                  try dsimp only at h11
                  simp [Region.wanted, yielded, h11]
                · obtain rfl := Option.some.inj ho
                  have h11 := hP.got 6 _ 61 rfl (haft ⟨6, .guard⟩ (by simp) rfl) rfl
                  try dsimp only at h11
                  simp [Region.wanted, yielded, h11]
                · obtain rfl := Option.some.inj ho
                  have h11 := hP.got 6 _ 61 rfl (haft ⟨6, .guard⟩ (by simp) rfl) rfl
                  try dsimp only at h11
                  simp [Region.wanted, yielded, h11]
                · obtain rfl := Option.some.inj ho
                  have h11 := hP.got 6 _ 61 rfl (haft ⟨6, .guard⟩ (by simp) rfl) rfl
                  try dsimp only at h11
                  simp [Region.wanted, yielded, h11]
                · obtain rfl := Option.some.inj ho
                  have h11 := hP.got 6 _ 61 rfl (haft ⟨6, .guard⟩ (by simp) rfl) rfl
                  try dsimp only at h11
                  simp [Region.wanted, yielded, h11]
                · obtain rfl := Option.some.inj ho
                  have h11 := hP.got 6 _ 61 rfl (haft ⟨6, .guard⟩ (by simp) rfl) rfl
                  try dsimp only at h11
                  simp [Region.wanted, yielded, h11]
                · obtain rfl := Option.some.inj ho
                  have h11 := hP.got 6 _ 61 rfl (haft ⟨6, .guard⟩ (by simp) rfl) rfl
                  try dsimp only at h11
                  simp [Region.wanted, yielded, h11]
                · obtain rfl := Option.some.inj ho
                  have h11 := hP.got 6 _ 61 rfl (haft ⟨6, .guard⟩ (by simp) rfl) rfl
                  try dsimp only at h11
                  simp [Region.wanted, yielded, h11]
                · obtain rfl := Option.some.inj ho
                  rfl
              case stepLtt =>
                rintro i o9 l a9 x W9 ho hP hkp hcd hI hl hsk haft K hK
                have hi : i < 16 := (Array.getElem?_eq_some_iff.1 ho).1
                rcases (show i = 0 ∨ i = 1 ∨ i = 2 ∨ i = 3 ∨ i = 4 ∨ i = 5 ∨ i = 6 ∨ i = 7 ∨ i = 8 ∨ i = 9 ∨ i = 10 ∨ i = 11 ∨ i = 12 ∨ i = 13 ∨ i = 14 ∨ i = 15 by omega) with rfl | rfl | rfl | rfl | rfl | rfl | rfl | rfl | rfl | rfl | rfl | rfl | rfl | rfl | rfl | rfl
                · clear hsk
                  obtain rfl := Option.some.inj ho
                  have q1 := (hP.keep (j := 1) (by kernel_rfl)).trans G1
                  go_simp
                  exact hK x _ (fun _ _ => rfl) (hI.pure (by decide : ¬ 0 = 99))
                · clear hsk
                  obtain rfl := Option.some.inj ho
                  have q12 := (hP.keep (j := 12) (by kernel_rfl)).trans G12
                  go_simp
                  exact hK x _ (fun _ _ => rfl) (hI.pure (by decide : ¬ 1 = 99))
                · clear hsk
                  obtain rfl := Option.some.inj ho
                  have e0 := hP.got 0 _ 55 rfl (haft ⟨0, .data⟩ (by simp) rfl) rfl
                  have e1 := hP.got 1 _ 56 rfl (haft ⟨1, .data⟩ (by simp) rfl) rfl
                  try dsimp only at e0 e1
                  go_simp
                  exact hK x _ (fun _ _ => rfl) (hI.pure (by decide : ¬ 2 = 99))
                · clear hsk
                  obtain rfl := Option.some.inj ho
                  have e2 := hP.got 2 _ 57 rfl (haft ⟨2, .data⟩ (by simp) rfl) rfl
                  try dsimp only at e2
                  go_simp
                  exact hK x _ (fun _ _ => rfl) (hI.pure (by decide : ¬ 3 = 99))
                · clear hsk
                  obtain rfl := Option.some.inj ho
                  have e3 := hP.got 3 _ 58 rfl (haft ⟨3, .data⟩ (by simp) rfl) rfl
                  try dsimp only at e3
                  have c9 := TRow.cel (v := .bool true) (hI.lb.rw T (by simp)) ea hlt (by rw [← LV.out]; rfl)
                  go_simp
                  exact hK x _ (fun _ _ => rfl) (hI.pure (by decide : ¬ 4 = 99))
                · clear hsk
                  obtain rfl := Option.some.inj ho
                  have e4 := hP.got 4 _ 59 rfl (haft ⟨4, .data⟩ (by simp) rfl) rfl
                  try dsimp only at e4
                  go_simp
                  exact hK x _ (fun _ _ => rfl) (hI.pure (by decide : ¬ 5 = 99))
                · clear hsk
                  obtain rfl := Option.some.inj ho
                  have e5 := hP.got 5 _ 60 rfl (haft ⟨5, .data⟩ (by simp) rfl) rfl
                  try dsimp only at e5
                  go_simp
                  exact hK x _ (fun _ _ => rfl) (hI.pure (by decide : ¬ 6 = 99))
                · cases hsk
                · cases hsk
                · cases hsk
                · cases hsk
                · cases hsk
                · cases hsk
                · cases hsk
                · cases hsk
                · clear hsk
                  obtain rfl := Option.some.inj ho
                  have e6 := hP.got 6 _ 61 rfl (haft ⟨6, .data⟩ (by simp) rfl) rfl
                  try dsimp only at e6
                  go_simp
                  exact hK x _ (fun _ _ => rfl) (hI.pure (by decide : ¬ 15 = 99))
              case doneLtt =>
                rintro l a9 x W9 hP hI hall
                have R3 := Lib.hid hI.lb
                obtain rfl := pl_full hP (by rw [TZ]; kernel_rfl) hall [some 55, some 56, some 57, some 58, some 59, some 60, some 61, some 62, some 63, some 64, some 65, some 66, some 67, some 68, some 69, some 70] (by rfl)
                clear hP hI hall TZ G1 G3 G12
                rw [HA.out]
                simp only [putD, Act.put, List.setIfInBounds_toArray, List.set_cons_succ, List.set_cons_zero]
                clear HA
                go_wp2
                go_roundw
                case rel => exact ⟨q + 1, by omega, by rw [← HN.out], by go_num, R3⟩
                case measure => simp [intOf]; omega
            | false =>
              have LV := Lib.hid hlv
              have hz0 : z = false := by rw [HZ2.out]; unfold openB; rw [hlv]; rfl
              clear hlv
              subst hz0
              go_upto_region 12 with fail
              refine Sh.region_gen fun a0 ha0 => ?_
              have G1 : a0.tmps[1]? = some (.slice (some ⟨b, off, none⟩) T.s.n T.s.c) := by rw [ha0]; rw [← ea]; rfl
              have G3 : a0.tmps[3]? = some (.pointer (some ⟨w.heap.size, 0, none⟩)) := by rw [ha0]; rfl
              have G12 : a0.tmps[12]? = some (.int .i64 (q : Int)) := by rw [ha0]; rfl
              have TZ : a0.tmps.size = 86 := by rw [ha0]; rfl
              have HA := Lib.hid ha0
              clear ha0
              refine region_planK (by kernel_rfl) (by kernel_rfl) (by rw [TZ]; kernel_rfl) (fun (x : Nat) (i : Nat) => (match i with | 0 => .slice (some ⟨b, off, none⟩) T.s.n T.s.c | 1 => .int .i64 (q : Int) | 2 => .pointer (some ⟨b, off + q * 15, none⟩) | 3 => .pointer (some ⟨b, off + q * 15, none⟩) | 4 => .bool false | 5 => .bool true | 6 => .bool true | 7 => (.agg #[.int .i64 k.ph, .int .i64 k.ep, .bool k.mj, .slice k.wk.a k.wk.n k.wk.c, .bool k.ov, .int .i64 k.pa, .int .i64 k.pf, .int .i64 k.ps, .int .i64 k.pc, .bool k.me]) | 8 => .slice (some ⟨b, off, none⟩) T.s.n T.s.c | 9 => .int .i64 (q : Int) | 10 => .pointer (some ⟨b, off + q * 15, none⟩) | 11 => (.agg #[.bool (T.g q).lv, .int .i64 ((T.g q).r 0), .int .i64 ((T.g q).r 1), .int .i64 ((T.g q).r 2), .int .i64 ((T.g q).r 3), .slice ((T.g q).u 0).a ((T.g q).u 0).n ((T.g q).u 0).c, .slice ((T.g q).u 1).a ((T.g q).u 1).n ((T.g q).u 1).c, .slice ((T.g q).u 2).a ((T.g q).u 2).n ((T.g q).u 2).c, .int .i64 (T.g q).ep, .int .i64 (T.g q).sg, .int .i64 (T.g q).rt, .slice (T.g q).o.a (T.g q).o.n (T.g q).o.c, .int .i64 (T.g q).pc, .int .i64 (T.g q).x, .int .i64 (T.g q).y]) | 12 => .slice (some ⟨x, 0, none⟩) 1 1 | 13 => .bool (!false) | 14 => .bool false | 15 => .bool false | _ => undef : Value)) (fun _ => false) ?zeroLtf (fun x l W => On w k T U q 12 x l W) 0 ?startLtf ?wantLtf ?skipLtf ?stepLtf ?doneLtf
              case zeroLtf => exact fun _ _ h => by cases h
              case startLtf => exact on_start (R2.out.next ⟨rfl, rfl, rfl, Nat.le_refl _, fun _ _ => rfl⟩)
              case skipLtf => exact fun i l x W h _ => by cases h
              case wantLtf =>
                rintro i o9 l a9 x ho hP haft
                have hi : i < 16 := (Array.getElem?_eq_some_iff.1 ho).1
                rcases (show i = 0 ∨ i = 1 ∨ i = 2 ∨ i = 3 ∨ i = 4 ∨ i = 5 ∨ i = 6 ∨ i = 7 ∨ i = 8 ∨ i = 9 ∨ i = 10 ∨ i = 11 ∨ i = 12 ∨ i = 13 ∨ i = 14 ∨ i = 15 by omega) with rfl | rfl | rfl | rfl | rfl | rfl | rfl | rfl | rfl | rfl | rfl | rfl | rfl | rfl | rfl | rfl
                · obtain rfl := Option.some.inj ho
                  rfl
                · obtain rfl := Option.some.inj ho
                  rfl
                · obtain rfl := Option.some.inj ho
                  rfl
                · obtain rfl := Option.some.inj ho
                  rfl
                · obtain rfl := Option.some.inj ho
                  rfl
                · obtain rfl := Option.some.inj ho
                  rfl
                · obtain rfl := Option.some.inj ho
                  rfl
                · obtain rfl := Option.some.inj ho
                  have h11 := hP.got 6 _ 61 rfl (haft ⟨6, .guard⟩ (by simp) rfl) rfl
                  try dsimp only at h11
                  simp [Region.wanted, yielded, h11]
                · obtain rfl := Option.some.inj ho
                  have h11 := hP.got 6 _ 61 rfl (haft ⟨6, .guard⟩ (by simp) rfl) rfl
                  try dsimp only at h11
                  simp [Region.wanted, yielded, h11]
                · obtain rfl := Option.some.inj ho
                  have h11 := hP.got 6 _ 61 rfl (haft ⟨6, .guard⟩ (by simp) rfl) rfl
                  try dsimp only at h11
                  simp [Region.wanted, yielded, h11]
                · obtain rfl := Option.some.inj ho
                  have h11 := hP.got 6 _ 61 rfl (haft ⟨6, .guard⟩ (by simp) rfl) rfl
                  try dsimp only at h11
                  simp [Region.wanted, yielded, h11]
                · obtain rfl := Option.some.inj ho
                  have h11 := hP.got 6 _ 61 rfl (haft ⟨6, .guard⟩ (by simp) rfl) rfl
                  try dsimp only at h11
                  simp [Region.wanted, yielded, h11]
                · obtain rfl := Option.some.inj ho
                  have h11 := hP.got 6 _ 61 rfl (haft ⟨6, .guard⟩ (by simp) rfl) rfl
                  try dsimp only at h11
                  simp [Region.wanted, yielded, h11]
                · obtain rfl := Option.some.inj ho
                  have h11 := hP.got 6 _ 61 rfl (haft ⟨6, .guard⟩ (by simp) rfl) rfl
                  try dsimp only at h11
                  simp [Region.wanted, yielded, h11]
                · obtain rfl := Option.some.inj ho
                  have h11 := hP.got 6 _ 61 rfl (haft ⟨6, .guard⟩ (by simp) rfl) rfl
                  try dsimp only at h11
                  simp [Region.wanted, yielded, h11]
                · obtain rfl := Option.some.inj ho
                  rfl
              case stepLtf =>
                rintro i o9 l a9 x W9 ho hP hkp hcd hI hl hsk haft K hK
                have hi : i < 16 := (Array.getElem?_eq_some_iff.1 ho).1
                rcases (show i = 0 ∨ i = 1 ∨ i = 2 ∨ i = 3 ∨ i = 4 ∨ i = 5 ∨ i = 6 ∨ i = 7 ∨ i = 8 ∨ i = 9 ∨ i = 10 ∨ i = 11 ∨ i = 12 ∨ i = 13 ∨ i = 14 ∨ i = 15 by omega) with rfl | rfl | rfl | rfl | rfl | rfl | rfl | rfl | rfl | rfl | rfl | rfl | rfl | rfl | rfl | rfl
                · clear hsk
                  obtain rfl := Option.some.inj ho
                  have q1 := (hP.keep (j := 1) (by kernel_rfl)).trans G1
                  go_simp
                  exact hK x _ (fun _ _ => rfl) (hI.pure (by decide : ¬ 0 = 12))
                · clear hsk
                  obtain rfl := Option.some.inj ho
                  have q12 := (hP.keep (j := 12) (by kernel_rfl)).trans G12
                  go_simp
                  exact hK x _ (fun _ _ => rfl) (hI.pure (by decide : ¬ 1 = 12))
                · clear hsk
                  obtain rfl := Option.some.inj ho
                  have e0 := hP.got 0 _ 55 rfl (haft ⟨0, .data⟩ (by simp) rfl) rfl
                  have e1 := hP.got 1 _ 56 rfl (haft ⟨1, .data⟩ (by simp) rfl) rfl
                  try dsimp only at e0 e1
                  go_simp
                  exact hK x _ (fun _ _ => rfl) (hI.pure (by decide : ¬ 2 = 12))
                · clear hsk
                  obtain rfl := Option.some.inj ho
                  have e2 := hP.got 2 _ 57 rfl (haft ⟨2, .data⟩ (by simp) rfl) rfl
                  try dsimp only at e2
                  go_simp
                  exact hK x _ (fun _ _ => rfl) (hI.pure (by decide : ¬ 3 = 12))
                · clear hsk
                  obtain rfl := Option.some.inj ho
                  have e3 := hP.got 3 _ 58 rfl (haft ⟨3, .data⟩ (by simp) rfl) rfl
                  try dsimp only at e3
                  have c9 := TRow.cel (v := .bool false) (hI.lb.rw T (by simp)) ea hlt (by rw [← LV.out]; rfl)
                  go_simp
                  exact hK x _ (fun _ _ => rfl) (hI.pure (by decide : ¬ 4 = 12))
                · clear hsk
                  obtain rfl := Option.some.inj ho
                  have e4 := hP.got 4 _ 59 rfl (haft ⟨4, .data⟩ (by simp) rfl) rfl
                  try dsimp only at e4
                  go_simp
                  exact hK x _ (fun _ _ => rfl) (hI.pure (by decide : ¬ 5 = 12))
                · clear hsk
                  obtain rfl := Option.some.inj ho
                  have e5 := hP.got 5 _ 60 rfl (haft ⟨5, .data⟩ (by simp) rfl) rfl
                  try dsimp only at e5
                  go_simp
                  exact hK x _ (fun _ _ => rfl) (hI.pure (by decide : ¬ 6 = 12))
                · clear hsk
                  obtain rfl := Option.some.inj ho
                  have q3 := (hP.keep (j := 3) (by kernel_rfl)).trans G3
                  exact Mu.p_load rfl (Mu.ev q3) (ldKb (hI.lb.bx w.heap.size (kv k) (by simp))) (hK x _ (fun _ _ => rfl) (hI.pure (by decide : ¬ 7 = 12)))
                · clear hsk
                  obtain rfl := Option.some.inj ho
                  have q1 := (hP.keep (j := 1) (by kernel_rfl)).trans G1
                  go_simp
                  exact hK x _ (fun _ _ => rfl) (hI.pure (by decide : ¬ 8 = 12))
                · clear hsk
                  obtain rfl := Option.some.inj ho
                  have q12 := (hP.keep (j := 12) (by kernel_rfl)).trans G12
                  go_simp
                  exact hK x _ (fun _ _ => rfl) (hI.pure (by decide : ¬ 9 = 12))
                · clear hsk
                  obtain rfl := Option.some.inj ho
                  have e8 := hP.got 8 _ 63 rfl (haft ⟨8, .data⟩ (by simp) rfl) rfl
                  have e9 := hP.got 9 _ 64 rfl (haft ⟨9, .data⟩ (by simp) rfl) rfl
                  try dsimp only at e8 e9
                  go_simp
                  exact hK x _ (fun _ _ => rfl) (hI.pure (by decide : ¬ 10 = 12))
                · clear hsk
                  obtain rfl := Option.some.inj ho
                  have e10 := hP.got 10 _ 65 rfl (haft ⟨10, .data⟩ (by simp) rfl) rfl
                  try dsimp only at e10
                  exact Mu.p_load rfl (Mu.ev e10) (TRow.load (hI.lb.rw T (by simp)) ea hlt) (hK x _ (fun _ _ => rfl) (hI.pure (by decide : ¬ 11 = 12)))
                · clear hsk
                  obtain rfl := Option.some.inj ho
                  have e11 := hP.got 11 _ 66 rfl (haft ⟨11, .data⟩ (by simp) rfl) rfl
                  try dsimp only at e11
                  go_simp
                  refine hK W9.heap.size _ ?_ (hI.lay 33)
                  intro j hj
                  match j, hj with
                  | 0, hj => rfl
                  | 1, hj => rfl
                  | 2, hj => rfl
                  | 3, hj => rfl
                  | 4, hj => rfl
                  | 5, hj => rfl
                  | 6, hj => rfl
                  | 7, hj => rfl
                  | 8, hj => rfl
                  | 9, hj => rfl
                  | 10, hj => rfl
                  | 11, hj => rfl
                  | 12, hj => rw [hl] at hj; cases hj
                  | 13, hj => rfl
                  | 14, hj => rfl
                  | 15, hj => rfl
                  | j + 16, _ => rfl
                · clear hsk
                  obtain rfl := Option.some.inj ho
                  have e7 := hP.got 7 _ 62 rfl (haft ⟨7, .data⟩ (by simp) rfl) rfl
                  have h9 := haft ⟨12, .data⟩ (by simp) rfl
                  have e12 := hP.got 12 _ 67 rfl h9 rfl
                  try dsimp only at e7 e12
                  go_simp
                  refine (CO.out x W9 (hI.row h9)).mono ?_
                  rintro e9 w9 ⟨he9, hb9⟩
                  rw [CE.out x] at he9
                  subst he9
                  exact hK x _ (fun _ _ => rfl) ((hI.next hb9).pure (by decide : ¬ 13 = 12))
                · clear hsk
                  obtain rfl := Option.some.inj ho
                  have e13 := hP.got 13 _ 68 rfl (haft ⟨13, .data⟩ (by simp) rfl) rfl
                  try dsimp only at e13
                  go_simp
                  exact hK x _ (fun _ _ => rfl) (hI.pure (by decide : ¬ 14 = 12))
                · clear hsk
                  obtain rfl := Option.some.inj ho
                  have e6 := hP.got 6 _ 61 rfl (haft ⟨6, .data⟩ (by simp) rfl) rfl
                  have e14 := hP.got 14 _ 69 rfl (haft ⟨14, .data⟩ (by simp) rfl) rfl
                  try dsimp only at e6 e14
                  go_simp
                  exact hK x _ (fun _ _ => rfl) (hI.pure (by decide : ¬ 15 = 12))
              case doneLtf =>
                rintro l a9 x W9 hP hI hall
                have R3 := Lib.hid hI.lb
                obtain rfl := pl_full hP (by rw [TZ]; kernel_rfl) hall [some 55, some 56, some 57, some 58, some 59, some 60, some 61, some 62, some 63, some 64, some 65, some 66, some 67, some 68, some 69, some 70] (by rfl)
                clear hP hI hall TZ G1 G3 G12
                rw [HA.out]
                simp only [putD, Act.put, List.setIfInBounds_toArray, List.set_cons_succ, List.set_cons_zero]
                clear HA
                go_wp2
                go_roundw
                case rel => exact ⟨q + 1, by omega, by rw [← HN.out], by go_num, R3⟩
                case measure => simp [intOf]; omega
      · obtain rfl : q = T.s.n := by omega
        have hltz : ¬ (T.s.n : Int) < (T.s.n : Int) := by omega
        have hE : (!anyB (openB k.ph k.ep) T.g T.s.n) = A := EA.out.symm
        rw [hE]
        clear hE
        have CN := Lib.hid (fun W => all_any k ⟨⟨none, 0, 0⟩, fun _ => noT⟩ W (TRow.empty _ _ _ _) (show 0 ≤ 1000000 by decide))
        have hN : allB k.ph k.ep ⟨⟨none, 0, 0⟩, fun _ => noT⟩ = true := rfl
        rw [hN] at CN
        clear hN EA EB CT CU
        cases A <;> cases B <;>
        (go_wp2_with (first
          | (refine w_loadg (ldKb (R.out.bx w.heap.size (kv k) (by simp))) rfl (by kernel_rfl) rfl rfl ?_)
          | ((go_at_call 5); refine (CN.out _).mono ?_; rintro e9 w9 ⟨rfl, hb9⟩; have R9 := Lib.hid (R.out.next hb9); clear hb9))
         go_ret
         exact ⟨rfl, R9.out.bel⟩)
end
theorem walk (k : Sh.Ks) (xs : List Int) (T U : Tl) (w : World) (hz : Cl.Sz w) (_ : Sh.WRow w w.heap.size k xs) (_ : k.wk.n ≤ k.wk.c) (_ : k.wk.c ≤ maxLen) (_ : (Lit.int .i64 k.ep).wf = true) (hr : TRow w w.heap.size T.s.a T.s.n T.g) (_ : T.s.n ≤ T.s.c) (_ : T.s.c ≤ maxLen) (hr2 : TRow w w.heap.size U.s.a U.s.n U.g) (_ : U.s.n ≤ U.s.c) (_ : U.s.c ≤ maxLen) : Calls Tryd.prog 3 #[(.agg #[.int .i64 k.ph, .int .i64 k.ep, .bool k.mj, .slice k.wk.a k.wk.n k.wk.c, .bool k.ov, .int .i64 k.pa, .int .i64 k.pf, .int .i64 k.ps, .int .i64 k.pc, .bool k.me]), .slice T.s.a T.s.n T.s.c, .slice U.s.a U.s.n U.s.c] w fun e w' => e = .returned (.bool true) ∧ Below w.heap.size w w' := by
  by_cases hn : T.s.n ≤ 6
  · by_cases hm : U.s.n ≤ 6
    · exact walk_yes k T U w hn hm hz hr hr2
    · exact walk_big2 k T U w hn (by omega) hz hr hr2
  · exact walk_big k T U w (by omega) hz hr hr2

-- the frame (hp15frame.py)
set_option maxRecDepth 100000 in
theorem lifted (os : Os) (started : os.Started) (H : Type) (enc : TypeId × Value → H) :
    ReturnsInHanded {} Tryd.checked os 3 .any (fun w args => (Rows.handAllSpec.pre enc Tryd.prog Tryd.f3 [] false w args ∧ laidMetH Tryd.prog laidSizes w) ∧ sizedMet enc Tryd.prog Tryd.f3 (OpenSpec.ofChange Rows.handAllSpec) false w args)
      (Rows.handAllSpec.post enc Tryd.prog Tryd.f3 false true false false) := by
  refine returnsInHanded_of_change_and (C := Tryd.checked) (X := fun w _ => laidMetH Tryd.prog laidSizes w) (fun _ _ _ hh h => h.of_heap hh) own started (by kernel_rfl) Tryd.func3
    (ChangeSpec.witness_shaped (enc := enc) (C := Tryd.checked) (os := os) (X := fun w _ => laidMetH Tryd.prog laidSizes w) false (World.doorLaid Tryd.prog 400 os) #[.agg #[.int .i64 0, .int .i64 0, .bool false, .slice none 0 0, .bool false, .int .i64 0, .int .i64 0, .int .i64 0, .int .i64 0, .bool false], .slice none 0 0, .slice none 0 0] 8 rfl (World.shaped_of_RefB (by kernel_rfl) (by kernel_rfl)) (by kernel_rfl) (by kernel_rfl) (by kernel_rfl) (door_met os _)) ?_
  intro W base args ds gs before hval0 hW _ _ hL _
  have hval : ∀ (j : Nat) t v, Tryd.f3.params[j]? = some t → args[j]? = some v → Value.okWide Tryd.prog W .any base t v := hval0
  have hW' := hW
  obtain ⟨p, q, hA0, hV, rfl, hfz, hnd⟩ := hW
  have hA : DataW.TrodAll enc Tryd.prog W 0 (fun _ => true) true Tryd.f3.params.toList args.toList ds p := hA0
  rw [Tryd.params3] at hA hval
  obtain ⟨v0, vs0, d0, ds0, p0, q0, hargs, rfl, rfl, h0, r0⟩ := trodAll_cons hA
  obtain ⟨v1, vs1, d1, ds1, p1, q1, rfl, rfl, rfl, h1, r1⟩ := trodAll_cons r0
  obtain ⟨v2, vs2, d2, ds2, p2, q2, rfl, rfl, rfl, h2, r2⟩ := trodAll_cons r1
  obtain ⟨rfl, rfl, rfl⟩ := trodAll_nil r2
  obtain rfl : args = #[v0, v1, v2] := by cases args; simp_all
  obtain ⟨rfl, rfl⟩ := trodVars_none hV
  have k0 := h0
  have lt0 : ∀ x ∈ p0, x.block < W.heap.size := by obtain ⟨m, hm⟩ := k0; exact DataW.trod_lt m _ _ _ hm
  obtain ⟨k0', z0, rfl, w0, m0, x0, f0⟩ := Sh.col_of (hval 0 24 v0 rfl rfl) h0
  have k1 := h1
  have lt1 : ∀ x ∈ p1, x.block < W.heap.size := by obtain ⟨m, hm⟩ := k1; exact DataW.trod_lt m _ _ _ hm
  obtain ⟨t1, g1, rfl, w1, m1, x1⟩ := Ha.ths_of (hval 1 25 v1 rfl rfl) h1
  have k2 := h2
  have lt2 : ∀ x ∈ p2, x.block < W.heap.size := by obtain ⟨m, hm⟩ := k2; exact DataW.trod_lt m _ _ _ hm
  obtain ⟨t2, g2, rfl, w2, m2, x2⟩ := Ha.ths_of (hval 2 25 v2 rfl rfl) h2
  clear hA0 hval0
  refine (walk k0' z0 ⟨t1, g1⟩ ⟨t2, g2⟩ W (of_laid hL) w0 m0 x0 f0 w1 m1 x1 w2 m2 x2).mono fun e W' ⟨he, bel⟩ => ?_
  subst he
  exact ⟨_, rfl, _, _, _, [], _, [], hW', trodAll_mk1 (shut_bool Tryd.underlying4 _), (trodAll_cons_mk (Below.trod laidOut (by kernel_rfl) (of_decide_eq_true (by kernel_rfl)) k0 bel lt0) (trodAll_cons_mk (Below.trod laidOut (by kernel_rfl) (of_decide_eq_true (by kernel_rfl)) k1 bel lt1) (trodAll_cons_mk (Below.trod laidOut (by kernel_rfl) (of_decide_eq_true (by kernel_rfl)) k2 bel lt2) trodAll_mk0))), rfl, bel.frame _, fun h => by cases h⟩

theorem over : Rows.HandAllSaid :=
  OpenClaim.holds_of_wide 3 Tryd.f3 rfl rfl rfl rfl rfl rfl rfl ⟨rfl, rfl, rfl, rfl, rfl⟩ rfl rfl rfl rfl rfl (by kernel_rfl) Tryd.func3 (by kernel_rfl)
    (of_decide_eq_true (by kernel_rfl)) (by unfold Func.isWrapper; first | (rw [if_pos (by decide +kernel)]; kernel_rfl) | (rw [if_neg (by decide +kernel)]; exact ⟨rfl, rfl⟩))
    (fun os started H enc _ => lifted os started H enc)

/-- The statement: the card. -/
theorem proved : Rows.HandAllCardSaid :=
  Claim7.holds_tied_plain_at .later [] [.data] true Rows.handAllCard.stood.harness false
    over (fun _ h => by cases h) (by kernel_rfl) (fun _ h => by cases h) handAll_row_tie rfl ⟨rfl, rfl⟩ (by kernel_rfl) rfl
    (fun f fn hf hfn => by
      obtain rfl : f = 3 := Option.some.inj ((show Tryd.prog.funcNamed "ragpicker/ragpickerlaw15.HandAll" = some 3 by kernel_rfl).symm.trans hf) |>.symm
      obtain rfl : fn = Tryd.f3 := (Option.some.inj (Tryd.func3.symm.trans hfn)).symm
      exact ⟨by kernel_rfl, fun j t ht => by
        rw [Tryd.params3] at ht
        have hm : t ∈ [24, 25, 25] := by simpa using Array.mem_of_getElem? ht
        have hall : ([24, 25, 25].all fun u => !Tryd.prog.wantsStandIn u) = true := by kernel_rfl
        exact (show Tryd.prog.wantsStandIn t = false by simpa using List.all_eq_true.1 hall t hm)⟩)
    (by kernel_rfl)
#print axioms proved
end Go.Proofs.YtgmkomnoiffapaaDoor.HandAll
