/-
  Does no black object lead to a white one?
-/
import Derived.Test.YtccjelpfmkbmiaaGreatDoorVTrRef
import Derived.Test.YtccjelpfmkbmiaaGreatDoorVTrHr
import Derived.Deep.LoopGhost
namespace Go.Proofs.YtccjelpfmkbmiaaGreatDoor.Tr
open Go.Proofs.YtccjelpfmkbmiaaGreatDoor Go.Proofs.YtccjelpfmkbmiaaGreatDoor.Rt
open Go.RowKit
open Go.Proofs.YtccjelpfmkbmiaaGreatDoor.Mu (hv kv w_load w_store w_loadg ldHb ldKb stHb stKb st_int ld_int p_load p_store ev region_plan noHs0 noK0)
open Go.Proofs.YtccjelpfmkbmiaaGreatDoor.Ha (region_planK pl_full putD w_skip)
set_option maxRecDepth 100000

/-- Of a black object: none of its fields is a white one's. -/
def ledB (s : Hs) (d : Hd_) (mj : Bool) (ep y : Int) : Bool := !decide (colQ s d mj ep y = 3) || (List.range (nOf (wd d y)).toNat).all fun j => !decide (colQ s d mj ep (wd d (y + 1 + (j : Int))) = 1)
def ledI (s : Hs) (d : Hd_) (mj : Bool) (ep : Int) : Int := if (usedL s d).all (ledB s d mj ep) = true then 0 else 1
theorem all_more' {p : Int → Bool} {G : List Int} {q : Nat} (h : q < G.length) (h1 : (G.take q).all p = true) (h2 : p (G.getD q 0) = true) : (G.take (q + 1)).all p = true := by
  rw [List.take_succ_eq_append_getElem h, List.all_append, h1]
  have e : G.getD q 0 = G[q] := by simp [List.getD, h]
  rw [e] at h2
  simp [h2]
theorem all_not' {p : Int → Bool} {G : List Int} {q : Nat} (h : q < G.length) (h2 : p (G.getD q 0) = false) : G.all p = false := by
  have e : G.getD q 0 = G[q] := by simp [List.getD, h]
  rw [e] at h2
  rw [Bool.eq_false_iff]
  intro hh
  have := List.all_eq_true.1 hh G[q] (List.getElem_mem h)
  rw [h2] at this
  cases this
theorem led_other {s : Hs} {d : Hd_} {mj : Bool} {ep y : Int} (h : ¬ colQ s d mj ep y = 3) : ledB s d mj ep y = true := by
  unfold ledB
  rw [decide_eq_false h]
  rfl
theorem led_yes {s : Hs} {d : Hd_} {mj : Bool} {ep y : Int} {N : Nat} (hN : nOf (wd d y) = N) (h : ∀ j, 1 ≤ j → j < N + 1 → ¬ colQ s d mj ep (wd d (y + (j : Nat))) = 1) : ledB s d mj ep y = true := by
  unfold ledB
  rw [hN, Bool.or_eq_true]
  refine .inr (List.all_eq_true.2 fun j hj => ?_)
  have hj' : j < N := by simpa using hj
  have := h (j + 1) (by omega) (by omega)
  rw [show y + ((j + 1 : Nat) : Int) = y + 1 + (j : Int) by omega] at this
  rw [decide_eq_false this]
  rfl
theorem led_no {s : Hs} {d : Hd_} {mj : Bool} {ep y : Int} {N r : Nat} (hN : nOf (wd d y) = N) (h3 : colQ s d mj ep y = 3) (h1 : 1 ≤ r) (h2 : r ≤ N) (h : colQ s d mj ep (wd d (y + (r : Nat))) = 1) : ledB s d mj ep y = false := by
  unfold ledB
  rw [hN, decide_eq_true h3]
  rw [Bool.eq_false_iff]
  intro hh
  simp only [Bool.not_true, Bool.false_or] at hh
  have := List.all_eq_true.1 hh (r - 1) (by simp; omega)
  rw [show y + 1 + ((r - 1 : Nat) : Int) = y + (r : Nat) by omega, h] at this
  cases this
set_option maxHeartbeats 8000000 in
theorem led_any (n : Q2) (w : World) (hn : In w n) : Calls Tryz.prog 29 #[(.agg #[.slice n.s.w.a n.s.w.n n.s.w.c, .slice n.s.p.a n.s.p.n n.s.p.c, .slice (n.s.u 0).a (n.s.u 0).n (n.s.u 0).c, .slice (n.s.u 1).a (n.s.u 1).n (n.s.u 1).c, .slice (n.s.u 2).a (n.s.u 2).n (n.s.u 2).c, .slice n.s.c.a n.s.c.n n.s.c.c]), (.agg #[.int .i64 n.k.ph, .int .i64 n.k.ep, .bool n.k.mj, .slice n.k.wk.a n.k.wk.n n.k.wk.c, .bool n.k.ov, .int .i64 n.k.pa, .int .i64 n.k.pf, .int .i64 n.k.ps, .int .i64 n.k.pc, .bool n.k.me])] w fun e w' => e = .returned (.int .i64 (ledI n.s n.d n.k.mj n.k.ep)) ∧ Below w.heap.size w w' := by
  have HN := Lib.hid hn.hold
  have HI := Lib.hid hn
  have CU := Lib.hid (fun W (hW : Hold W n) => rused_any n W hW hn.fine)
  have CC := Lib.hid (fun W y (hW : Hold W n) => rcol_any n.s n.d n.k y W hW.h hn.fine)
  have CH := Lib.hid (fun W y (hW : Hold W n) => rhead_any n.s n.d y W hW.h hn.fine)
  obtain ⟨G, hGe⟩ : ∃ G, G = usedL n.s n.d := ⟨_, rfl⟩
  have hG : G.length ≤ 512 := by rw [hGe]; exact Nat.le_trans (used_len n.s n.d) (allS_len n.d.f n.s.p.n)
  have HGE := Lib.hid hGe
  rw [← hGe] at CU
  obtain ⟨gn0, hgn⟩ : ∃ q, G.length = q := ⟨_, rfl⟩
  rw [hgn] at hG
  have HG := Lib.hid hgn
  clear hn hgn hGe
  go_enter Tryz.func29, Tryz.ntmps29
  go_upto_region 1 with fail
  obtain ⟨W1, hW1⟩ : ∃ W1, W1 = ((w.alloc (.cells #[.slice n.s.w.a n.s.w.n n.s.w.c, .slice n.s.p.a n.s.p.n n.s.p.c, .slice (n.s.u 0).a (n.s.u 0).n (n.s.u 0).c, .slice (n.s.u 1).a (n.s.u 1).n (n.s.u 1).c, .slice (n.s.u 2).a (n.s.u 2).n (n.s.u 2).c, .slice n.s.c.a n.s.c.n n.s.c.c] 28)).alloc (.cells #[.int .i64 n.k.ph, .int .i64 n.k.ep, .bool n.k.mj, .slice n.k.wk.a n.k.wk.n n.k.wk.c, .bool n.k.ov, .int .i64 n.k.pa, .int .i64 n.k.pf, .int .i64 n.k.ps, .int .i64 n.k.pc, .bool n.k.me] 30)) := ⟨_, rfl⟩
  have S1 : Hid (Wn 2 w W1 (p4 w.heap.size (w.heap.size + 1) (w.heap.size + 2) (w.heap.size + 3)) (c4 (hv n.s) (kv n.k) [] []) [n]) := Lib.hid (by
    rw [hW1]
    exact (wn_of (c := (c4 (hv n.s) (kv n.k) [] [])) (((lay_none w).add (hv n.s) 28).add (kv n.k) 30) (by decide) (all2 ⟨rfl, rfl⟩)).old HN.out)
  rw [← hW1]
  clear hW1
  go_upto_region 2 with (first
    | (refine w_load (ldHb (show Box _ (w.heap.size) (hv n.s) from S1.out.box 0 (by decide))) rfl rfl rfl rfl ?_)
    | ((go_at_call 31); (with_reducible refine (CU.out _ (S1.out.at n (by simp))).mono ?_); rintro e9 w2 ⟨⟨va, vn, vc⟩, rfl, ho, hb2⟩; have S2 := Lib.hid (S1.out.next hb2); have OH := Lib.hid ho; clear ho hb2))
  obtain rfl : vn = gn0 := by have h1 := OH.out.1; have h2 := HG.out; simp only [List.length_map] at h1; omega
  have R2 := Lib.hid (Sh.row_of (v := ⟨va, vn, vc⟩) OH.out)
  clear S1 CU OH
  go_wp2
  go_loopg [6] vn (fun g i wr => ∃ q : Nat, q + g = vn ∧ i = .int .i64 q ∧ Hid (Below w2.heap.size w2 wr ∧ (G.take q).all (ledB n.s n.d n.k.mj n.k.ep) = true))
  case atStart => exact ⟨0, by omega, rfl, Lib.hid ⟨Below.refl _ _, by simp⟩⟩
  case round =>
    obtain ⟨q, hq, rfl, HA⟩ := hrel
    have LA := Lib.hid (S2.out.next HA.out.1)
    obtain ⟨wo, rfl⟩ : ∃ wo : World, wo = wr := ⟨_, rfl⟩
    obtain ⟨go, rfl⟩ : ∃ go : Nat, go = gk := ⟨_, rfl⟩
    have HJ := Lib.hid hq
    have hq1 : q ≤ vn := by omega
    clear hq
    by_cases hlt : q < vn
    · have d0 : decide ((q : Int) < vn) = true := decide_eq_true (by omega)
      have HQ : Hid (q < G.length) := Lib.hid (by have := HG.out; omega)
      obtain ⟨b, off, rfl, hbl', hcell⟩ := (Row.below R2.out HA.out.1).2 (by omega)
      have DQ := Lib.hid (hcell q hlt)
      have DN : Hid (b < wo.heap.size) := Lib.hid (by have := HA.out.1.size; omega)
      obtain ⟨y, hy⟩ : ∃ y, y = G.getD q 0 := ⟨_, rfl⟩
      rw [← hy] at DQ
      have HY := Lib.hid hy
      have hyu : y ∈ usedL n.s n.d := by rw [← HGE.out, hy]; exact getD_mem HQ.out
      have h0 := Sh.used_E hyu
      have HO := Lib.hid (Sh.obj_of h0)
      have HE0 := Lib.hid h0
      have FI := Lib.hid (fld_in h0)
      have CHY := Lib.hid (fun W (hW : Hold W n) => CH.out W y hW)
      rw [HO.out.val, h0] at CHY
      generalize hgo : decide (wd n.d y / 2 % 2 = 1) = xo at CHY
      generalize hge : decide (wd n.d y / 4 % 2 = 1) = xe at CHY
      generalize hgb : wd n.d y / 1024 % 4194304 = xb at CHY
      generalize hgm : wd n.d y / 4294967296 = xm at CHY
      obtain ⟨N, hN⟩ : ∃ N : Nat, nOf (wd n.d y) = N := ⟨(nOf (wd n.d y)).toNat, by have := HO.out.parts; omega⟩
      have HNN := Lib.hid hN
      have hN63 : N ≤ 63 := by have := HO.out.parts; omega
      rw [hN] at CHY
      obtain ⟨cy, hcy⟩ : ∃ c, c = colQ n.s n.d n.k.mj n.k.ep y := ⟨_, rfl⟩
      have HC := Lib.hid (fun W (hW : Hold W n) => CC.out W y hW)
      rw [← hcy] at HC
      have HCY := Lib.hid hcy
      clear hcell hy hbl' hyu h0 hgo hge hgb hgm hN hcy
      by_cases h3 : cy = 3
      · have e1 : decide (cy = 3) = true := decide_eq_true h3
        have e2 : (cy == 3) = true := e1
        have e3 : (cy != 3) = false := by rw [bne, e2]; rfl
        have H3 := Lib.hid (HCY.out.symm.trans h3)
        clear h3
        go_upto_region 5 with fail
        refine Sh.region_gen fun a0 ha0 => ?_
        have G2 : a0.tmps[2]? = some (.pointer (some ⟨w.heap.size, 0, none⟩)) := by rw [ha0]; rfl
        have G3 : a0.tmps[3]? = some (.pointer (some ⟨w.heap.size + 1, 0, none⟩)) := by rw [ha0]; rfl
        have G5 : a0.tmps[5]? = some (.slice (some ⟨b, off, none⟩) vn vc) := by rw [ha0]; rfl
        have G6 : a0.tmps[6]? = some (.int .i64 (q : Int)) := by rw [ha0]; rfl
        have TZ : a0.tmps.size = 56 := by rw [ha0]; rfl
        have HA := Lib.hid ha0
        clear ha0
        refine region_planK (by kernel_rfl) (by kernel_rfl) (by rw [TZ]; kernel_rfl) (fun (x : Unit) (i : Nat) => (match i with | 0 => (.agg #[.slice n.s.w.a n.s.w.n n.s.w.c, .slice n.s.p.a n.s.p.n n.s.p.c, .slice (n.s.u 0).a (n.s.u 0).n (n.s.u 0).c, .slice (n.s.u 1).a (n.s.u 1).n (n.s.u 1).c, .slice (n.s.u 2).a (n.s.u 2).n (n.s.u 2).c, .slice n.s.c.a n.s.c.n n.s.c.c]) | 1 => (.agg #[.int .i64 n.k.ph, .int .i64 n.k.ep, .bool n.k.mj, .slice n.k.wk.a n.k.wk.n n.k.wk.c, .bool n.k.ov, .int .i64 n.k.pa, .int .i64 n.k.pf, .int .i64 n.k.ps, .int .i64 n.k.pc, .bool n.k.me]) | 2 => .slice (some ⟨b, off, none⟩) vn vc | 3 => .int .i64 (q : Int) | 4 => .pointer (some ⟨b, off + q, none⟩) | 5 => .int .i64 y | 6 => .int .i64 cy | 7 => .bool false | _ => undef : Value)) (fun _ => false) ?zeroB (fun _ _ W => Below wo.heap.size wo W) () ?startB ?wantB ?skipB ?stepB ?doneB
        case zeroB => exact fun _ _ h => by cases h
        case startB => exact ⟨rfl, rfl, rfl, Nat.le_refl _, fun _ _ => rfl⟩
        case skipB => exact fun i l x W h _ => by cases h
        case wantB =>
          rintro i o9 l a9 x ho hP haft
          have hi : i < 8 := (Array.getElem?_eq_some_iff.1 ho).1
          rcases (show i = 0 ∨ i = 1 ∨ i = 2 ∨ i = 3 ∨ i = 4 ∨ i = 5 ∨ i = 6 ∨ i = 7 by omega) with rfl | rfl | rfl | rfl | rfl | rfl | rfl | rfl
          · obtain rfl := Option.some.inj ho
            rfl
          · obtain rfl := Option.some.inj ho
            rfl
          · obtain rfl := Option.some.inj ho
            rfl
          · obtain rfl := Option.some.inj ho
            rfl
          · obtain rfl := Option.some.inj ho
            rfl
          · obtain rfl := Option.some.inj ho
            rfl
          · obtain rfl := Option.some.inj ho
            rfl
          · obtain rfl := Option.some.inj ho
            rfl
        case stepB =>
          rintro i o9 l a9 x W9 ho hP hkp hcd hI hl hsk haft K hK
          have hi : i < 8 := (Array.getElem?_eq_some_iff.1 ho).1
          rcases (show i = 0 ∨ i = 1 ∨ i = 2 ∨ i = 3 ∨ i = 4 ∨ i = 5 ∨ i = 6 ∨ i = 7 by omega) with rfl | rfl | rfl | rfl | rfl | rfl | rfl | rfl
          · clear hsk
            obtain rfl := Option.some.inj ho
            have q2 := (hP.keep (j := 2) (by kernel_rfl)).trans G2
            exact Mu.p_load rfl (Mu.ev q2) (ldHb (show Box W9 w.heap.size (hv n.s) from (LA.out.next hI).box 0 (by decide))) (hK () _ (fun _ _ => rfl) hI)
          · clear hsk
            obtain rfl := Option.some.inj ho
            have q3 := (hP.keep (j := 3) (by kernel_rfl)).trans G3
            exact Mu.p_load rfl (Mu.ev q3) (ldKb (show Box W9 (w.heap.size + 1) (kv n.k) from (LA.out.next hI).box 1 (by decide))) (hK () _ (fun _ _ => rfl) hI)
          · clear hsk
            obtain rfl := Option.some.inj ho
            have q5 := (hP.keep (j := 5) (by kernel_rfl)).trans G5
            go_simp
            exact hK () _ (fun _ _ => rfl) hI
          · clear hsk
            obtain rfl := Option.some.inj ho
            have q6 := (hP.keep (j := 6) (by kernel_rfl)).trans G6
            go_simp
            exact hK () _ (fun _ _ => rfl) hI
          · clear hsk
            obtain rfl := Option.some.inj ho
            have e2 := hP.got 2 _ 20 rfl (haft ⟨2, .data⟩ (by simp) rfl) rfl
            have e3 := hP.got 3 _ 21 rfl (haft ⟨3, .data⟩ (by simp) rfl) rfl
            try dsimp only at e2 e3
            go_simp
            exact hK () _ (fun _ _ => rfl) hI
          · clear hsk
            obtain rfl := Option.some.inj ho
            have e4 := hP.got 4 _ 22 rfl (haft ⟨4, .data⟩ (by simp) rfl) rfl
            try dsimp only at e4
            have c9 := (Below.cell (p := ⟨b, off + q, none⟩) (hI) DN.out).trans DQ.out
            have l9 : b < W9.heap.size := Nat.lt_of_lt_of_le DN.out (hI).size
            go_simp
            exact hK () _ (fun _ _ => rfl) hI
          · clear hsk
            obtain rfl := Option.some.inj ho
            have e0 := hP.got 0 _ 18 rfl (haft ⟨0, .data⟩ (by simp) rfl) rfl
            have e1 := hP.got 1 _ 19 rfl (haft ⟨1, .data⟩ (by simp) rfl) rfl
            have e5 := hP.got 5 _ 23 rfl (haft ⟨5, .data⟩ (by simp) rfl) rfl
            try dsimp only at e0 e1 e5
            go_simp
            refine (HC.out W9 ((LA.out.next hI).at n (by simp))).mono ?_
            rintro e9 w9 ⟨rfl, hb9⟩
            exact hK () _ (fun _ _ => rfl) (hI.trans (hb9.mono hI.size))
          · clear hsk
            obtain rfl := Option.some.inj ho
            have e6 := hP.got 6 _ 24 rfl (haft ⟨6, .data⟩ (by simp) rfl) rfl
            try dsimp only at e6
            go_simp
            exact hK () _ (fun _ _ => rfl) hI
        case doneB =>
          rintro l a9 x W9 hP hI hall
          have R9 := Lib.hid hI
          obtain rfl := pl_full hP (by rw [TZ]; kernel_rfl) hall [some 18, some 19, some 20, some 21, some 22, some 23, some 24, some 25] (by rfl)
          clear hP hI hall TZ G2 G3 G5 G6
          rw [HA.out]
          simp only [putD, Act.put, List.setIfInBounds_toArray, List.set_cons_succ, List.set_cons_zero]
          clear HA
          have RB : Hid (Below wo.heap.size wo W9) := R9
          clear R9 e1 e2 e3
          obtain ⟨w5, rfl⟩ : ∃ w5 : World, w5 = W9 := ⟨_, rfl⟩
          go_upto_region 6 with fail
          refine Sh.region_gen fun a0 ha0 => ?_
          have G2 : a0.tmps[2]? = some (.pointer (some ⟨w.heap.size, 0, none⟩)) := by rw [ha0]; rfl
          have G5 : a0.tmps[5]? = some (.slice (some ⟨b, off, none⟩) vn vc) := by rw [ha0]; rfl
          have G6 : a0.tmps[6]? = some (.int .i64 (q : Int)) := by rw [ha0]; rfl
          have TZ : a0.tmps.size = 56 := by rw [ha0]; rfl
          have HA := Lib.hid ha0
          clear ha0
          refine region_planK (by kernel_rfl) (by kernel_rfl) (by rw [TZ]; kernel_rfl) (fun (x : Nat) (i : Nat) => (match i with | 0 => (.agg #[.slice n.s.w.a n.s.w.n n.s.w.c, .slice n.s.p.a n.s.p.n n.s.p.c, .slice (n.s.u 0).a (n.s.u 0).n (n.s.u 0).c, .slice (n.s.u 1).a (n.s.u 1).n (n.s.u 1).c, .slice (n.s.u 2).a (n.s.u 2).n (n.s.u 2).c, .slice n.s.c.a n.s.c.n n.s.c.c]) | 1 => .slice (some ⟨b, off, none⟩) vn vc | 2 => .int .i64 (q : Int) | 3 => .pointer (some ⟨b, off + q, none⟩) | 4 => .int .i64 y | 5 => .tuple #[.agg #[.bool true, .bool xo, .bool xe, .int .i64 (N : Int), .int .i64 xb, .int .i64 xm], .int .i64 0] | 6 => .tuple #[.agg #[.bool true, .bool xo, .bool xe, .int .i64 (N : Int), .int .i64 xb, .int .i64 xm], .int .i64 0] | 7 => .agg #[.bool true, .bool xo, .bool xe, .int .i64 (N : Int), .int .i64 xb, .int .i64 xm] | 8 => .int .i64 0 | 9 => .pointer (some ⟨x, 0, none⟩) | 10 => undef | 11 => .int .i64 0 | _ => undef : Value)) (fun _ => false) ?zeroX (fun x l W => Hr w5 [.bool true, .bool xo, .bool xe, .int .i64 (N : Int), .int .i64 xb, .int .i64 xm] 9 10 x l W) 0 ?startX ?wantX ?skipX ?stepX ?doneX
          case zeroX => exact fun _ _ h => by cases h
          case startX => exact hr_start _ _ _ _ _
          case skipX => exact fun i l x W h _ => by cases h
          case wantX =>
            rintro i o9 l a9 x ho hP haft
            have hi : i < 12 := (Array.getElem?_eq_some_iff.1 ho).1
            rcases (show i = 0 ∨ i = 1 ∨ i = 2 ∨ i = 3 ∨ i = 4 ∨ i = 5 ∨ i = 6 ∨ i = 7 ∨ i = 8 ∨ i = 9 ∨ i = 10 ∨ i = 11 by omega) with rfl | rfl | rfl | rfl | rfl | rfl | rfl | rfl | rfl | rfl | rfl | rfl
            · obtain rfl := Option.some.inj ho
              rfl
            · obtain rfl := Option.some.inj ho
              rfl
            · obtain rfl := Option.some.inj ho
              rfl
            · obtain rfl := Option.some.inj ho
              rfl
            · obtain rfl := Option.some.inj ho
              rfl
            · obtain rfl := Option.some.inj ho
              rfl
            · obtain rfl := Option.some.inj ho
              rfl
            · obtain rfl := Option.some.inj ho
              rfl
            · obtain rfl := Option.some.inj ho
              rfl
            · obtain rfl := Option.some.inj ho
              rfl
            · obtain rfl := Option.some.inj ho
              rfl
            · obtain rfl := Option.some.inj ho
              rfl
          case stepX =>
            rintro i o9 l a9 x W9 ho hP hkp hcd hI hl hsk haft K hK
            have hi : i < 12 := (Array.getElem?_eq_some_iff.1 ho).1
            rcases (show i = 0 ∨ i = 1 ∨ i = 2 ∨ i = 3 ∨ i = 4 ∨ i = 5 ∨ i = 6 ∨ i = 7 ∨ i = 8 ∨ i = 9 ∨ i = 10 ∨ i = 11 by omega) with rfl | rfl | rfl | rfl | rfl | rfl | rfl | rfl | rfl | rfl | rfl | rfl
            · clear hsk
              obtain rfl := Option.some.inj ho
              have q2 := (hP.keep (j := 2) (by kernel_rfl)).trans G2
              exact Mu.p_load rfl (Mu.ev q2) (ldHb (show Box W9 w.heap.size (hv n.s) from ((LA.out.next RB.out).next hI.bel).box 0 (by decide))) (hK x _ (fun _ _ => rfl) (hI.pure (by decide : ¬ 0 = 9) (by decide : ¬ 0 = 10)))
            · clear hsk
              obtain rfl := Option.some.inj ho
              have q5 := (hP.keep (j := 5) (by kernel_rfl)).trans G5
              go_simp
              exact hK x _ (fun _ _ => rfl) (hI.pure (by decide : ¬ 1 = 9) (by decide : ¬ 1 = 10))
            · clear hsk
              obtain rfl := Option.some.inj ho
              have q6 := (hP.keep (j := 6) (by kernel_rfl)).trans G6
              go_simp
              exact hK x _ (fun _ _ => rfl) (hI.pure (by decide : ¬ 2 = 9) (by decide : ¬ 2 = 10))
            · clear hsk
              obtain rfl := Option.some.inj ho
              have e1 := hP.got 1 _ 28 rfl (haft ⟨1, .data⟩ (by simp) rfl) rfl
              have e2 := hP.got 2 _ 29 rfl (haft ⟨2, .data⟩ (by simp) rfl) rfl
              try dsimp only at e1 e2
              go_simp
              exact hK x _ (fun _ _ => rfl) (hI.pure (by decide : ¬ 3 = 9) (by decide : ¬ 3 = 10))
            · clear hsk
              obtain rfl := Option.some.inj ho
              have e3 := hP.got 3 _ 30 rfl (haft ⟨3, .data⟩ (by simp) rfl) rfl
              try dsimp only at e3
              have c9 := (Below.cell (p := ⟨b, off + q, none⟩) (RB.out.trans (hI.bel.mono RB.out.size)) DN.out).trans DQ.out
              have l9 : b < W9.heap.size := Nat.lt_of_lt_of_le DN.out (RB.out.trans (hI.bel.mono RB.out.size)).size
              go_simp
              exact hK x _ (fun _ _ => rfl) (hI.pure (by decide : ¬ 4 = 9) (by decide : ¬ 4 = 10))
            · clear hsk
              obtain rfl := Option.some.inj ho
              have e0 := hP.got 0 _ 27 rfl (haft ⟨0, .data⟩ (by simp) rfl) rfl
              have e4 := hP.got 4 _ 31 rfl (haft ⟨4, .data⟩ (by simp) rfl) rfl
              try dsimp only at e0 e4
              go_simp
              refine (CHY.out W9 (((LA.out.next RB.out).next hI.bel).at n (by simp))).mono ?_
              rintro e9 w9 ⟨rfl, hb9⟩
              exact hK x _ (fun _ _ => rfl) ((hI.next hb9).pure (by decide : ¬ 5 = 9) (by decide : ¬ 5 = 10))
            · clear hsk
              obtain rfl := Option.some.inj ho
              have e5 := hP.got 5 _ 32 rfl (haft ⟨5, .data⟩ (by simp) rfl) rfl
              try dsimp only at e5
              go_simp
              exact hK x _ (fun _ _ => rfl) (hI.pure (by decide : ¬ 6 = 9) (by decide : ¬ 6 = 10))
            · clear hsk
              obtain rfl := Option.some.inj ho
              have e6 := hP.got 6 _ 26 rfl (haft ⟨6, .data⟩ (by simp) rfl) rfl
              try dsimp only at e6
              go_simp
              exact hK x _ (fun _ _ => rfl) (hI.pure (by decide : ¬ 7 = 9) (by decide : ¬ 7 = 10))
            · clear hsk
              obtain rfl := Option.some.inj ho
              have e6 := hP.got 6 _ 26 rfl (haft ⟨6, .data⟩ (by simp) rfl) rfl
              try dsimp only at e6
              go_simp
              exact hK x _ (fun _ _ => rfl) (hI.pure (by decide : ¬ 8 = 9) (by decide : ¬ 8 = 10))
            · clear hsk
              obtain rfl := Option.some.inj ho
              go_simp
              refine hK W9.heap.size _ ?_ (hI.lay hl)
              intro j hj
              match j, hj with
              | 0, hj => rfl
              | 1, hj => rfl
              | 2, hj => rfl
              | 3, hj => rfl
              | 4, hj => rfl
              | 5, hj => rfl
              | 6, hj => rfl
              | 7, hj => rfl
              | 8, hj => rfl
              | 9, hj => rw [hl] at hj; cases hj
              | 10, hj => rfl
              | 11, hj => rfl
              | j + 12, _ => rfl
            · clear hsk
              obtain rfl := Option.some.inj ho
              have h9 := haft ⟨9, .data⟩ (by simp) rfl
              have e9 := hP.got 9 _ 7 rfl h9 rfl
              have e7 := hP.got 7 _ 33 rfl (haft ⟨7, .data⟩ (by simp) rfl) rfl
              try dsimp only at e9 e7
              exact Mu.p_store rfl (Mu.ev e9) (Mu.ev e7) (hI.run h9 hl rfl) (hK x _ (fun _ _ => rfl) (hI.put h9 hl rfl))
            · clear hsk
              obtain rfl := Option.some.inj ho
              have e8 := hP.got 8 _ 34 rfl (haft ⟨8, .data⟩ (by simp) rfl) rfl
              try dsimp only at e8
              go_simp
              exact hK x _ (fun _ _ => rfl) (hI.pure (by decide : ¬ 11 = 9) (by decide : ¬ 11 = 10))
          case doneX =>
            rintro l a9 x W9 hP hI hall
            have R9 := Lib.hid (hI.done (hall 9 (by decide)) (hall 10 (by decide)))
            obtain rfl := pl_full hP (by rw [TZ]; kernel_rfl) hall [some 27, some 28, some 29, some 30, some 31, some 32, some 26, some 33, some 34, some 7, none, some 8] (by rfl)
            clear hP hI hall TZ G2 G5 G6
            rw [HA.out]
            simp only [putD, Act.put, List.setIfInBounds_toArray, List.set_cons_succ, List.set_cons_zero]
            clear HA
            have BX : Hid (Below w5.heap.size w5 W9 ∧ w5.heap.size ≤ x ∧ Box W9 x [.bool true, .bool xo, .bool xe, .int .i64 (N : Int), .int .i64 xb, .int .i64 xm]) := R9
            clear R9
            obtain ⟨w6, rfl⟩ : ∃ w6 : World, w6 = W9 := ⟨_, rfl⟩
            have B6 : Hid (Below wo.heap.size wo w6) := Lib.hid (RB.out.trans (BX.out.1.mono RB.out.size))
            go_wp2
            go_loopg [9] N (fun g f wi => ∃ r : Nat, r + g = N + 1 ∧ 1 ≤ r ∧ f = .int .i64 r ∧ Hid (Below w6.heap.size w6 wi ∧ ∀ j, 1 ≤ j → j < r → ¬ colQ n.s n.d n.k.mj n.k.ep (wd n.d (y + (j : Nat))) = 1))
            case atStart => exact ⟨1, by omega, by omega, rfl, Lib.hid ⟨Below.refl _ _, fun j h1 h2 => absurd h2 (by omega)⟩⟩
            case round =>
              obtain ⟨r, hr, hr1, rfl, HB⟩ := hrel
              have HR := Lib.hid hr
              have LB := Lib.hid ((LA.out.next B6.out).next HB.out.1)
              have x3 := (BX.out.2.2.next HB.out.1).cel 3 (.int .i64 (N : Int)) rfl
              have xl := (BX.out.2.2.next HB.out.1).lt
              clear hr
              by_cases hrn : r ≤ N
              · have d1 : decide ((r : Int) ≤ (N : Int)) = true := decide_eq_true (by omega)
                obtain ⟨bw, ow, ea, hbw, hcw⟩ := (LB.out.at n (by simp)).h.words.2 (by have := FI.out; omega)
                obtain ⟨i0, hi⟩ : ∃ i0 : Nat, y + (r : Int) - 16 = (i0 : Int) := ⟨(y + (r : Int) - 16).toNat, by have := FI.out; omega⟩
                have hiw : i0 < n.s.w.n := by have := FI.out; have := HNN.out; omega
                have DW := Lib.hid (hcw i0 hiw)
                have DL := Lib.hid (show bw < wr.heap.size from hbw)
                obtain ⟨v, hv⟩ : ∃ v, v = wd n.d (y + (r : Nat)) := ⟨_, rfl⟩
                rw [show n.d.ws.getD i0 0 = v by rw [hv]; unfold wd; rw [show (y + (r : Nat) - 16).toNat = i0 by omega]] at DW
                obtain ⟨cv, hcv⟩ : ∃ c, c = colQ n.s n.d n.k.mj n.k.ep v := ⟨_, rfl⟩
                have HCV := Lib.hid (fun W (hW : Hold W n) => CC.out W v hW)
                rw [← hcv] at HCV
                have HV := Lib.hid (And.intro hv hcv)
                have w1 : IntKind.i64.wrap (y + (r : Int)) = y + (r : Int) := IntWalk.i64_in _ (by have := FI.out; have := HI.out.fine.wn; omega)
                have w2' : IntKind.i64.wrap (y + (r : Int) - 16) = (i0 : Int) := by rw [hi]; exact IntWalk.i64_in _ (by have := HI.out.fine.wn; omega)
                have EA := Lib.hid ea
                have hi0 : (i0 : Int) < (n.s.w.n : Int) := by omega
                clear hcw hbw hv hcv hi ea
                by_cases h1 : cv = 1
                · skip
                  have f1 : decide (cv = 1) = true := decide_eq_true h1
                  have f2 : (cv == 1) = true := f1
                  have H1 := Lib.hid h1
                  clear h1
                  go_upto_region 10 with fail
                  refine Sh.region_gen fun a0 ha0 => ?_
                  have G2 : a0.tmps[2]? = some (.pointer (some ⟨w.heap.size, 0, none⟩)) := by rw [ha0]; rfl
                  have G3 : a0.tmps[3]? = some (.pointer (some ⟨w.heap.size + 1, 0, none⟩)) := by rw [ha0]; rfl
                  have G5 : a0.tmps[5]? = some (.slice (some ⟨b, off, none⟩) vn vc) := by rw [ha0]; rfl
                  have G6 : a0.tmps[6]? = some (.int .i64 (q : Int)) := by rw [ha0]; rfl
                  have G9 : a0.tmps[9]? = some (.int .i64 (r : Int)) := by rw [ha0]; rfl
                  have TZ : a0.tmps.size = 56 := by rw [ha0]; rfl
                  have HA := Lib.hid ha0
                  clear ha0
                  refine region_planK (by kernel_rfl) (by kernel_rfl) (by rw [TZ]; kernel_rfl) (fun (x : Unit) (i : Nat) => (match i with | 0 => (.agg #[.slice n.s.w.a n.s.w.n n.s.w.c, .slice n.s.p.a n.s.p.n n.s.p.c, .slice (n.s.u 0).a (n.s.u 0).n (n.s.u 0).c, .slice (n.s.u 1).a (n.s.u 1).n (n.s.u 1).c, .slice (n.s.u 2).a (n.s.u 2).n (n.s.u 2).c, .slice n.s.c.a n.s.c.n n.s.c.c]) | 1 => (.agg #[.int .i64 n.k.ph, .int .i64 n.k.ep, .bool n.k.mj, .slice n.k.wk.a n.k.wk.n n.k.wk.c, .bool n.k.ov, .int .i64 n.k.pa, .int .i64 n.k.pf, .int .i64 n.k.ps, .int .i64 n.k.pc, .bool n.k.me]) | 2 => .pointer (some ⟨w.heap.size, 0, none⟩) | 3 => .slice (some ⟨bw, ow, none⟩) n.s.w.n n.s.w.c | 4 => .slice (some ⟨b, off, none⟩) vn vc | 5 => .int .i64 (q : Int) | 6 => .pointer (some ⟨b, off + q, none⟩) | 7 => .int .i64 y | 8 => .int .i64 (r : Int) | 9 => .int .i64 (y + (r : Int)) | 10 => .int .i64 (i0 : Int) | 11 => .pointer (some ⟨bw, ow + i0, none⟩) | 12 => .int .i64 v | 13 => .int .i64 cv | 14 => .bool true | _ => undef : Value)) (fun _ => false) ?zeroT (fun _ _ W => Below wr.heap.size wr W) () ?startT ?wantT ?skipT ?stepT ?doneT
                  case zeroT => exact fun _ _ h => by cases h
                  case startT => exact ⟨rfl, rfl, rfl, Nat.le_refl _, fun _ _ => rfl⟩
                  case skipT => exact fun i l x W h _ => by cases h
                  case wantT =>
                    rintro i o9 l a9 x ho hP haft
                    have hi : i < 15 := (Array.getElem?_eq_some_iff.1 ho).1
                    rcases (show i = 0 ∨ i = 1 ∨ i = 2 ∨ i = 3 ∨ i = 4 ∨ i = 5 ∨ i = 6 ∨ i = 7 ∨ i = 8 ∨ i = 9 ∨ i = 10 ∨ i = 11 ∨ i = 12 ∨ i = 13 ∨ i = 14 by omega) with rfl | rfl | rfl | rfl | rfl | rfl | rfl | rfl | rfl | rfl | rfl | rfl | rfl | rfl | rfl
                    · obtain rfl := Option.some.inj ho
                      rfl
                    · obtain rfl := Option.some.inj ho
                      rfl
                    · obtain rfl := Option.some.inj ho
                      rfl
                    · obtain rfl := Option.some.inj ho
                      rfl
                    · obtain rfl := Option.some.inj ho
                      rfl
                    · obtain rfl := Option.some.inj ho
                      rfl
                    · obtain rfl := Option.some.inj ho
                      rfl
                    · obtain rfl := Option.some.inj ho
                      rfl
                    · obtain rfl := Option.some.inj ho
                      rfl
                    · obtain rfl := Option.some.inj ho
                      rfl
                    · obtain rfl := Option.some.inj ho
                      rfl
                    · obtain rfl := Option.some.inj ho
                      rfl
                    · obtain rfl := Option.some.inj ho
                      rfl
                    · obtain rfl := Option.some.inj ho
                      rfl
                    · obtain rfl := Option.some.inj ho
                      rfl
                  case stepT =>
                    rintro i o9 l a9 x W9 ho hP hkp hcd hI hl hsk haft K hK
                    have hi : i < 15 := (Array.getElem?_eq_some_iff.1 ho).1
                    rcases (show i = 0 ∨ i = 1 ∨ i = 2 ∨ i = 3 ∨ i = 4 ∨ i = 5 ∨ i = 6 ∨ i = 7 ∨ i = 8 ∨ i = 9 ∨ i = 10 ∨ i = 11 ∨ i = 12 ∨ i = 13 ∨ i = 14 by omega) with rfl | rfl | rfl | rfl | rfl | rfl | rfl | rfl | rfl | rfl | rfl | rfl | rfl | rfl | rfl
                    · clear hsk
                      obtain rfl := Option.some.inj ho
                      have q2 := (hP.keep (j := 2) (by kernel_rfl)).trans G2
                      exact Mu.p_load rfl (Mu.ev q2) (ldHb (show Box W9 w.heap.size (hv n.s) from (LB.out.next hI).box 0 (by decide))) (hK () _ (fun _ _ => rfl) hI)
                    · clear hsk
                      obtain rfl := Option.some.inj ho
                      have q3 := (hP.keep (j := 3) (by kernel_rfl)).trans G3
                      exact Mu.p_load rfl (Mu.ev q3) (ldKb (show Box W9 (w.heap.size + 1) (kv n.k) from (LB.out.next hI).box 1 (by decide))) (hK () _ (fun _ _ => rfl) hI)
                    · clear hsk
                      obtain rfl := Option.some.inj ho
                      have q2 := (hP.keep (j := 2) (by kernel_rfl)).trans G2
                      go_simp
                      exact hK () _ (fun _ _ => rfl) hI
                    · clear hsk
                      obtain rfl := Option.some.inj ho
                      have e2 := hP.got 2 _ 43 rfl (haft ⟨2, .data⟩ (by simp) rfl) rfl
                      try dsimp only at e2
                      have z0 : W9.cell? ⟨w.heap.size, 0, none⟩ = some (.slice (some ⟨bw, ow, none⟩) n.s.w.n n.s.w.c) := by rw [← EA.out]; exact (show Box W9 w.heap.size (hv n.s) from (LB.out.next hI).box 0 (by decide)).cel 0 _ rfl
                      go_simp
                      exact hK () _ (fun _ _ => rfl) hI
                    · clear hsk
                      obtain rfl := Option.some.inj ho
                      have q5 := (hP.keep (j := 5) (by kernel_rfl)).trans G5
                      go_simp
                      exact hK () _ (fun _ _ => rfl) hI
                    · clear hsk
                      obtain rfl := Option.some.inj ho
                      have q6 := (hP.keep (j := 6) (by kernel_rfl)).trans G6
                      go_simp
                      exact hK () _ (fun _ _ => rfl) hI
                    · clear hsk
                      obtain rfl := Option.some.inj ho
                      have e4 := hP.got 4 _ 45 rfl (haft ⟨4, .data⟩ (by simp) rfl) rfl
                      have e5 := hP.got 5 _ 46 rfl (haft ⟨5, .data⟩ (by simp) rfl) rfl
                      try dsimp only at e4 e5
                      go_simp
                      exact hK () _ (fun _ _ => rfl) hI
                    · clear hsk
                      obtain rfl := Option.some.inj ho
                      have e6 := hP.got 6 _ 47 rfl (haft ⟨6, .data⟩ (by simp) rfl) rfl
                      try dsimp only at e6
                      have c9 := (Below.cell (p := ⟨b, off + q, none⟩) (B6.out.trans ((HB.out.1.trans (hI.mono HB.out.1.size)).mono B6.out.size)) DN.out).trans DQ.out
                      have l9 : b < W9.heap.size := Nat.lt_of_lt_of_le DN.out (B6.out.trans ((HB.out.1.trans (hI.mono HB.out.1.size)).mono B6.out.size)).size
                      go_simp
                      exact hK () _ (fun _ _ => rfl) hI
                    · clear hsk
                      obtain rfl := Option.some.inj ho
                      have q9 := (hP.keep (j := 9) (by kernel_rfl)).trans G9
                      go_simp
                      exact hK () _ (fun _ _ => rfl) hI
                    · clear hsk
                      obtain rfl := Option.some.inj ho
                      have e7 := hP.got 7 _ 48 rfl (haft ⟨7, .data⟩ (by simp) rfl) rfl
                      have e8 := hP.got 8 _ 49 rfl (haft ⟨8, .data⟩ (by simp) rfl) rfl
                      try dsimp only at e7 e8
                      go_simp
                      exact hK () _ (fun _ _ => rfl) hI
                    · clear hsk
                      obtain rfl := Option.some.inj ho
                      have e9 := hP.got 9 _ 50 rfl (haft ⟨9, .data⟩ (by simp) rfl) rfl
                      try dsimp only at e9
                      go_simp
                      exact hK () _ (fun _ _ => rfl) hI
                    · clear hsk
                      obtain rfl := Option.some.inj ho
                      have e3 := hP.got 3 _ 44 rfl (haft ⟨3, .data⟩ (by simp) rfl) rfl
                      have e10 := hP.got 10 _ 51 rfl (haft ⟨10, .data⟩ (by simp) rfl) rfl
                      try dsimp only at e3 e10
                      go_simp
                      exact hK () _ (fun _ _ => rfl) hI
                    · clear hsk
                      obtain rfl := Option.some.inj ho
                      have e11 := hP.got 11 _ 52 rfl (haft ⟨11, .data⟩ (by simp) rfl) rfl
                      try dsimp only at e11
                      have z1 := (Below.cell (p := ⟨bw, ow + i0, none⟩) hI DL.out).trans DW.out
                      have z2 : bw < W9.heap.size := Nat.lt_of_lt_of_le DL.out hI.size
                      go_simp
                      exact hK () _ (fun _ _ => rfl) hI
                    · clear hsk
                      obtain rfl := Option.some.inj ho
                      have e0 := hP.got 0 _ 41 rfl (haft ⟨0, .data⟩ (by simp) rfl) rfl
                      have e1 := hP.got 1 _ 42 rfl (haft ⟨1, .data⟩ (by simp) rfl) rfl
                      have e12 := hP.got 12 _ 53 rfl (haft ⟨12, .data⟩ (by simp) rfl) rfl
                      try dsimp only at e0 e1 e12
                      go_simp
                      refine (HCV.out W9 ((LB.out.next hI).at n (by simp))).mono ?_
                      rintro e9 w9 ⟨rfl, hb9⟩
                      exact hK () _ (fun _ _ => rfl) (hI.trans (hb9.mono hI.size))
                    · clear hsk
                      obtain rfl := Option.some.inj ho
                      have e13 := hP.got 13 _ 54 rfl (haft ⟨13, .data⟩ (by simp) rfl) rfl
                      try dsimp only at e13
                      go_simp
                      exact hK () _ (fun _ _ => rfl) hI
                  case doneT =>
                    rintro l a9 x W9 hP hI hall
                    have R9 := Lib.hid hI
                    obtain rfl := pl_full hP (by rw [TZ]; kernel_rfl) hall [some 41, some 42, some 43, some 44, some 45, some 46, some 47, some 48, some 49, some 50, some 51, some 52, some 53, some 54, some 55] (by rfl)
                    clear hP hI hall TZ G2 G3 G5 G6 G9
                    rw [HA.out]
                    simp only [putD, Act.put, List.setIfInBounds_toArray, List.set_cons_succ, List.set_cons_zero]
                    clear HA
                    have HE : Hid (ledI n.s n.d n.k.mj n.k.ep = 1) := Lib.hid (if_neg (by rw [← HGE.out, all_not' HQ.out (by rw [← HY.out]; exact led_no HNN.out H3.out hr1 hrn (by rw [← HV.out.1, ← HV.out.2]; exact H1.out))]; decide))
                    go_wp2
                    go_ret
                    exact ⟨(by rw [HE.out]; first | done | rfl), (LB.out.next R9.out).bel⟩
                · skip
                  have f1 : decide (cv = 1) = false := decide_eq_false h1
                  have f2 : (cv == 1) = false := f1
                  have H1 := Lib.hid h1
                  clear h1
                  go_upto_region 10 with fail
                  refine Sh.region_gen fun a0 ha0 => ?_
                  have G2 : a0.tmps[2]? = some (.pointer (some ⟨w.heap.size, 0, none⟩)) := by rw [ha0]; rfl
                  have G3 : a0.tmps[3]? = some (.pointer (some ⟨w.heap.size + 1, 0, none⟩)) := by rw [ha0]; rfl
                  have G5 : a0.tmps[5]? = some (.slice (some ⟨b, off, none⟩) vn vc) := by rw [ha0]; rfl
                  have G6 : a0.tmps[6]? = some (.int .i64 (q : Int)) := by rw [ha0]; rfl
                  have G9 : a0.tmps[9]? = some (.int .i64 (r : Int)) := by rw [ha0]; rfl
                  have TZ : a0.tmps.size = 56 := by rw [ha0]; rfl
                  have HA := Lib.hid ha0
                  clear ha0
                  refine region_planK (by kernel_rfl) (by kernel_rfl) (by rw [TZ]; kernel_rfl) (fun (x : Unit) (i : Nat) => (match i with | 0 => (.agg #[.slice n.s.w.a n.s.w.n n.s.w.c, .slice n.s.p.a n.s.p.n n.s.p.c, .slice (n.s.u 0).a (n.s.u 0).n (n.s.u 0).c, .slice (n.s.u 1).a (n.s.u 1).n (n.s.u 1).c, .slice (n.s.u 2).a (n.s.u 2).n (n.s.u 2).c, .slice n.s.c.a n.s.c.n n.s.c.c]) | 1 => (.agg #[.int .i64 n.k.ph, .int .i64 n.k.ep, .bool n.k.mj, .slice n.k.wk.a n.k.wk.n n.k.wk.c, .bool n.k.ov, .int .i64 n.k.pa, .int .i64 n.k.pf, .int .i64 n.k.ps, .int .i64 n.k.pc, .bool n.k.me]) | 2 => .pointer (some ⟨w.heap.size, 0, none⟩) | 3 => .slice (some ⟨bw, ow, none⟩) n.s.w.n n.s.w.c | 4 => .slice (some ⟨b, off, none⟩) vn vc | 5 => .int .i64 (q : Int) | 6 => .pointer (some ⟨b, off + q, none⟩) | 7 => .int .i64 y | 8 => .int .i64 (r : Int) | 9 => .int .i64 (y + (r : Int)) | 10 => .int .i64 (i0 : Int) | 11 => .pointer (some ⟨bw, ow + i0, none⟩) | 12 => .int .i64 v | 13 => .int .i64 cv | 14 => .bool false | _ => undef : Value)) (fun _ => false) ?zeroF (fun _ _ W => Below wr.heap.size wr W) () ?startF ?wantF ?skipF ?stepF ?doneF
                  case zeroF => exact fun _ _ h => by cases h
                  case startF => exact ⟨rfl, rfl, rfl, Nat.le_refl _, fun _ _ => rfl⟩
                  case skipF => exact fun i l x W h _ => by cases h
                  case wantF =>
                    rintro i o9 l a9 x ho hP haft
                    have hi : i < 15 := (Array.getElem?_eq_some_iff.1 ho).1
                    rcases (show i = 0 ∨ i = 1 ∨ i = 2 ∨ i = 3 ∨ i = 4 ∨ i = 5 ∨ i = 6 ∨ i = 7 ∨ i = 8 ∨ i = 9 ∨ i = 10 ∨ i = 11 ∨ i = 12 ∨ i = 13 ∨ i = 14 by omega) with rfl | rfl | rfl | rfl | rfl | rfl | rfl | rfl | rfl | rfl | rfl | rfl | rfl | rfl | rfl
                    · obtain rfl := Option.some.inj ho
                      rfl
                    · obtain rfl := Option.some.inj ho
                      rfl
                    · obtain rfl := Option.some.inj ho
                      rfl
                    · obtain rfl := Option.some.inj ho
                      rfl
                    · obtain rfl := Option.some.inj ho
                      rfl
                    · obtain rfl := Option.some.inj ho
                      rfl
                    · obtain rfl := Option.some.inj ho
                      rfl
                    · obtain rfl := Option.some.inj ho
                      rfl
                    · obtain rfl := Option.some.inj ho
                      rfl
                    · obtain rfl := Option.some.inj ho
                      rfl
                    · obtain rfl := Option.some.inj ho
                      rfl
                    · obtain rfl := Option.some.inj ho
                      rfl
                    · obtain rfl := Option.some.inj ho
                      rfl
                    · obtain rfl := Option.some.inj ho
                      rfl
                    · obtain rfl := Option.some.inj ho
                      rfl
                  case stepF =>
                    rintro i o9 l a9 x W9 ho hP hkp hcd hI hl hsk haft K hK
                    have hi : i < 15 := (Array.getElem?_eq_some_iff.1 ho).1
                    rcases (show i = 0 ∨ i = 1 ∨ i = 2 ∨ i = 3 ∨ i = 4 ∨ i = 5 ∨ i = 6 ∨ i = 7 ∨ i = 8 ∨ i = 9 ∨ i = 10 ∨ i = 11 ∨ i = 12 ∨ i = 13 ∨ i = 14 by omega) with rfl | rfl | rfl | rfl | rfl | rfl | rfl | rfl | rfl | rfl | rfl | rfl | rfl | rfl | rfl
                    · clear hsk
                      obtain rfl := Option.some.inj ho
                      have q2 := (hP.keep (j := 2) (by kernel_rfl)).trans G2
                      exact Mu.p_load rfl (Mu.ev q2) (ldHb (show Box W9 w.heap.size (hv n.s) from (LB.out.next hI).box 0 (by decide))) (hK () _ (fun _ _ => rfl) hI)
                    · clear hsk
                      obtain rfl := Option.some.inj ho
                      have q3 := (hP.keep (j := 3) (by kernel_rfl)).trans G3
                      exact Mu.p_load rfl (Mu.ev q3) (ldKb (show Box W9 (w.heap.size + 1) (kv n.k) from (LB.out.next hI).box 1 (by decide))) (hK () _ (fun _ _ => rfl) hI)
                    · clear hsk
                      obtain rfl := Option.some.inj ho
                      have q2 := (hP.keep (j := 2) (by kernel_rfl)).trans G2
                      go_simp
                      exact hK () _ (fun _ _ => rfl) hI
                    · clear hsk
                      obtain rfl := Option.some.inj ho
                      have e2 := hP.got 2 _ 43 rfl (haft ⟨2, .data⟩ (by simp) rfl) rfl
                      try dsimp only at e2
                      have z0 : W9.cell? ⟨w.heap.size, 0, none⟩ = some (.slice (some ⟨bw, ow, none⟩) n.s.w.n n.s.w.c) := by rw [← EA.out]; exact (show Box W9 w.heap.size (hv n.s) from (LB.out.next hI).box 0 (by decide)).cel 0 _ rfl
                      go_simp
                      exact hK () _ (fun _ _ => rfl) hI
                    · clear hsk
                      obtain rfl := Option.some.inj ho
                      have q5 := (hP.keep (j := 5) (by kernel_rfl)).trans G5
                      go_simp
                      exact hK () _ (fun _ _ => rfl) hI
                    · clear hsk
                      obtain rfl := Option.some.inj ho
                      have q6 := (hP.keep (j := 6) (by kernel_rfl)).trans G6
                      go_simp
                      exact hK () _ (fun _ _ => rfl) hI
                    · clear hsk
                      obtain rfl := Option.some.inj ho
                      have e4 := hP.got 4 _ 45 rfl (haft ⟨4, .data⟩ (by simp) rfl) rfl
                      have e5 := hP.got 5 _ 46 rfl (haft ⟨5, .data⟩ (by simp) rfl) rfl
                      try dsimp only at e4 e5
                      go_simp
                      exact hK () _ (fun _ _ => rfl) hI
                    · clear hsk
                      obtain rfl := Option.some.inj ho
                      have e6 := hP.got 6 _ 47 rfl (haft ⟨6, .data⟩ (by simp) rfl) rfl
                      try dsimp only at e6
                      have c9 := (Below.cell (p := ⟨b, off + q, none⟩) (B6.out.trans ((HB.out.1.trans (hI.mono HB.out.1.size)).mono B6.out.size)) DN.out).trans DQ.out
                      have l9 : b < W9.heap.size := Nat.lt_of_lt_of_le DN.out (B6.out.trans ((HB.out.1.trans (hI.mono HB.out.1.size)).mono B6.out.size)).size
                      go_simp
                      exact hK () _ (fun _ _ => rfl) hI
                    · clear hsk
                      obtain rfl := Option.some.inj ho
                      have q9 := (hP.keep (j := 9) (by kernel_rfl)).trans G9
                      go_simp
                      exact hK () _ (fun _ _ => rfl) hI
                    · clear hsk
                      obtain rfl := Option.some.inj ho
                      have e7 := hP.got 7 _ 48 rfl (haft ⟨7, .data⟩ (by simp) rfl) rfl
                      have e8 := hP.got 8 _ 49 rfl (haft ⟨8, .data⟩ (by simp) rfl) rfl
                      try dsimp only at e7 e8
                      go_simp
                      exact hK () _ (fun _ _ => rfl) hI
                    · clear hsk
                      obtain rfl := Option.some.inj ho
                      have e9 := hP.got 9 _ 50 rfl (haft ⟨9, .data⟩ (by simp) rfl) rfl
                      try dsimp only at e9
                      go_simp
                      exact hK () _ (fun _ _ => rfl) hI
                    · clear hsk
                      obtain rfl := Option.some.inj ho
                      have e3 := hP.got 3 _ 44 rfl (haft ⟨3, .data⟩ (by simp) rfl) rfl
                      have e10 := hP.got 10 _ 51 rfl (haft ⟨10, .data⟩ (by simp) rfl) rfl
                      try dsimp only at e3 e10
                      go_simp
                      exact hK () _ (fun _ _ => rfl) hI
                    · clear hsk
                      obtain rfl := Option.some.inj ho
                      have e11 := hP.got 11 _ 52 rfl (haft ⟨11, .data⟩ (by simp) rfl) rfl
                      try dsimp only at e11
                      have z1 := (Below.cell (p := ⟨bw, ow + i0, none⟩) hI DL.out).trans DW.out
                      have z2 : bw < W9.heap.size := Nat.lt_of_lt_of_le DL.out hI.size
                      go_simp
                      exact hK () _ (fun _ _ => rfl) hI
                    · clear hsk
                      obtain rfl := Option.some.inj ho
                      have e0 := hP.got 0 _ 41 rfl (haft ⟨0, .data⟩ (by simp) rfl) rfl
                      have e1 := hP.got 1 _ 42 rfl (haft ⟨1, .data⟩ (by simp) rfl) rfl
                      have e12 := hP.got 12 _ 53 rfl (haft ⟨12, .data⟩ (by simp) rfl) rfl
                      try dsimp only at e0 e1 e12
                      go_simp
                      refine (HCV.out W9 ((LB.out.next hI).at n (by simp))).mono ?_
                      rintro e9 w9 ⟨rfl, hb9⟩
                      exact hK () _ (fun _ _ => rfl) (hI.trans (hb9.mono hI.size))
                    · clear hsk
                      obtain rfl := Option.some.inj ho
                      have e13 := hP.got 13 _ 54 rfl (haft ⟨13, .data⟩ (by simp) rfl) rfl
                      try dsimp only at e13
                      go_simp
                      exact hK () _ (fun _ _ => rfl) hI
                  case doneF =>
                    rintro l a9 x W9 hP hI hall
                    have R9 := Lib.hid hI
                    obtain rfl := pl_full hP (by rw [TZ]; kernel_rfl) hall [some 41, some 42, some 43, some 44, some 45, some 46, some 47, some 48, some 49, some 50, some 51, some 52, some 53, some 54, some 55] (by rfl)
                    clear hP hI hall TZ G2 G3 G5 G6 G9
                    rw [HA.out]
                    simp only [putD, Act.put, List.setIfInBounds_toArray, List.set_cons_succ, List.set_cons_zero]
                    clear HA
                    have HE := Lib.hid (And.intro (HB.out.1.trans (R9.out.mono HB.out.1.size)) (show ∀ j, 1 ≤ j → j < r + 1 → ¬ colQ n.s n.d n.k.mj n.k.ep (wd n.d (y + (j : Nat))) = 1 from fun j g1 g2 => by
                      by_cases e : j = r
                      · subst e; rw [← HV.out.1, ← HV.out.2]; exact H1.out
                      · exact HB.out.2 j g1 (by omega)))
                    go_wp2
                    go_roundg (gk - 1)
                    case rel => exact ⟨r + 1, by have := HR.out; omega, by omega, by go_num, HE⟩
                    case measure => have := HR.out; omega
              · obtain rfl : r = N + 1 := by have := HR.out; omega
                have d1 : decide (((N + 1 : Nat) : Int) ≤ (N : Int)) = false := decide_eq_false (by omega)
                have HE := Lib.hid (And.intro (HA.out.1.trans ((B6.out.trans (HB.out.1.mono B6.out.size)).mono HA.out.1.size)) (all_more' HQ.out HA.out.2 (by rw [← HY.out]; exact led_yes HNN.out HB.out.2)))
                go_wp2
                go_roundg (go - 1)
                case rel => exact ⟨q + 1, by have := HJ.out; omega, by go_num, HE⟩
                case measure => have := HJ.out; omega
      · have e1 : decide (cy = 3) = false := decide_eq_false h3
        have e2 : (cy == 3) = false := e1
        have e3 : (cy != 3) = true := by rw [bne, e2]; rfl
        have H3 := Lib.hid (show ¬ colQ n.s n.d n.k.mj n.k.ep y = 3 from fun h => h3 (HCY.out.trans h))
        clear h3
        go_upto_region 5 with fail
        refine Sh.region_gen fun a0 ha0 => ?_
        have G2 : a0.tmps[2]? = some (.pointer (some ⟨w.heap.size, 0, none⟩)) := by rw [ha0]; rfl
        have G3 : a0.tmps[3]? = some (.pointer (some ⟨w.heap.size + 1, 0, none⟩)) := by rw [ha0]; rfl
        have G5 : a0.tmps[5]? = some (.slice (some ⟨b, off, none⟩) vn vc) := by rw [ha0]; rfl
        have G6 : a0.tmps[6]? = some (.int .i64 (q : Int)) := by rw [ha0]; rfl
        have TZ : a0.tmps.size = 56 := by rw [ha0]; rfl
        have HA := Lib.hid ha0
        clear ha0
        refine region_planK (by kernel_rfl) (by kernel_rfl) (by rw [TZ]; kernel_rfl) (fun (x : Unit) (i : Nat) => (match i with | 0 => (.agg #[.slice n.s.w.a n.s.w.n n.s.w.c, .slice n.s.p.a n.s.p.n n.s.p.c, .slice (n.s.u 0).a (n.s.u 0).n (n.s.u 0).c, .slice (n.s.u 1).a (n.s.u 1).n (n.s.u 1).c, .slice (n.s.u 2).a (n.s.u 2).n (n.s.u 2).c, .slice n.s.c.a n.s.c.n n.s.c.c]) | 1 => (.agg #[.int .i64 n.k.ph, .int .i64 n.k.ep, .bool n.k.mj, .slice n.k.wk.a n.k.wk.n n.k.wk.c, .bool n.k.ov, .int .i64 n.k.pa, .int .i64 n.k.pf, .int .i64 n.k.ps, .int .i64 n.k.pc, .bool n.k.me]) | 2 => .slice (some ⟨b, off, none⟩) vn vc | 3 => .int .i64 (q : Int) | 4 => .pointer (some ⟨b, off + q, none⟩) | 5 => .int .i64 y | 6 => .int .i64 cy | 7 => .bool true | _ => undef : Value)) (fun _ => false) ?zeroC (fun _ _ W => Below wo.heap.size wo W) () ?startC ?wantC ?skipC ?stepC ?doneC
        case zeroC => exact fun _ _ h => by cases h
        case startC => exact ⟨rfl, rfl, rfl, Nat.le_refl _, fun _ _ => rfl⟩
        case skipC => exact fun i l x W h _ => by cases h
        case wantC =>
          rintro i o9 l a9 x ho hP haft
          have hi : i < 8 := (Array.getElem?_eq_some_iff.1 ho).1
          rcases (show i = 0 ∨ i = 1 ∨ i = 2 ∨ i = 3 ∨ i = 4 ∨ i = 5 ∨ i = 6 ∨ i = 7 by omega) with rfl | rfl | rfl | rfl | rfl | rfl | rfl | rfl
          · obtain rfl := Option.some.inj ho
            rfl
          · obtain rfl := Option.some.inj ho
            rfl
          · obtain rfl := Option.some.inj ho
            rfl
          · obtain rfl := Option.some.inj ho
            rfl
          · obtain rfl := Option.some.inj ho
            rfl
          · obtain rfl := Option.some.inj ho
            rfl
          · obtain rfl := Option.some.inj ho
            rfl
          · obtain rfl := Option.some.inj ho
            rfl
        case stepC =>
          rintro i o9 l a9 x W9 ho hP hkp hcd hI hl hsk haft K hK
          have hi : i < 8 := (Array.getElem?_eq_some_iff.1 ho).1
          rcases (show i = 0 ∨ i = 1 ∨ i = 2 ∨ i = 3 ∨ i = 4 ∨ i = 5 ∨ i = 6 ∨ i = 7 by omega) with rfl | rfl | rfl | rfl | rfl | rfl | rfl | rfl
          · clear hsk
            obtain rfl := Option.some.inj ho
            have q2 := (hP.keep (j := 2) (by kernel_rfl)).trans G2
            exact Mu.p_load rfl (Mu.ev q2) (ldHb (show Box W9 w.heap.size (hv n.s) from (LA.out.next hI).box 0 (by decide))) (hK () _ (fun _ _ => rfl) hI)
          · clear hsk
            obtain rfl := Option.some.inj ho
            have q3 := (hP.keep (j := 3) (by kernel_rfl)).trans G3
            exact Mu.p_load rfl (Mu.ev q3) (ldKb (show Box W9 (w.heap.size + 1) (kv n.k) from (LA.out.next hI).box 1 (by decide))) (hK () _ (fun _ _ => rfl) hI)
          · clear hsk
            obtain rfl := Option.some.inj ho
            have q5 := (hP.keep (j := 5) (by kernel_rfl)).trans G5
            go_simp
            exact hK () _ (fun _ _ => rfl) hI
          · clear hsk
            obtain rfl := Option.some.inj ho
            have q6 := (hP.keep (j := 6) (by kernel_rfl)).trans G6
            go_simp
            exact hK () _ (fun _ _ => rfl) hI
          · clear hsk
            obtain rfl := Option.some.inj ho
            have e2 := hP.got 2 _ 20 rfl (haft ⟨2, .data⟩ (by simp) rfl) rfl
            have e3 := hP.got 3 _ 21 rfl (haft ⟨3, .data⟩ (by simp) rfl) rfl
            try dsimp only at e2 e3
            go_simp
            exact hK () _ (fun _ _ => rfl) hI
          · clear hsk
            obtain rfl := Option.some.inj ho
            have e4 := hP.got 4 _ 22 rfl (haft ⟨4, .data⟩ (by simp) rfl) rfl
            try dsimp only at e4
            have c9 := (Below.cell (p := ⟨b, off + q, none⟩) (hI) DN.out).trans DQ.out
            have l9 : b < W9.heap.size := Nat.lt_of_lt_of_le DN.out (hI).size
            go_simp
            exact hK () _ (fun _ _ => rfl) hI
          · clear hsk
            obtain rfl := Option.some.inj ho
            have e0 := hP.got 0 _ 18 rfl (haft ⟨0, .data⟩ (by simp) rfl) rfl
            have e1 := hP.got 1 _ 19 rfl (haft ⟨1, .data⟩ (by simp) rfl) rfl
            have e5 := hP.got 5 _ 23 rfl (haft ⟨5, .data⟩ (by simp) rfl) rfl
            try dsimp only at e0 e1 e5
            go_simp
            refine (HC.out W9 ((LA.out.next hI).at n (by simp))).mono ?_
            rintro e9 w9 ⟨rfl, hb9⟩
            exact hK () _ (fun _ _ => rfl) (hI.trans (hb9.mono hI.size))
          · clear hsk
            obtain rfl := Option.some.inj ho
            have e6 := hP.got 6 _ 24 rfl (haft ⟨6, .data⟩ (by simp) rfl) rfl
            try dsimp only at e6
            go_simp
            exact hK () _ (fun _ _ => rfl) hI
        case doneC =>
          rintro l a9 x W9 hP hI hall
          have R9 := Lib.hid hI
          obtain rfl := pl_full hP (by rw [TZ]; kernel_rfl) hall [some 18, some 19, some 20, some 21, some 22, some 23, some 24, some 25] (by rfl)
          clear hP hI hall TZ G2 G3 G5 G6
          rw [HA.out]
          simp only [putD, Act.put, List.setIfInBounds_toArray, List.set_cons_succ, List.set_cons_zero]
          clear HA
          have HE := Lib.hid (And.intro (HA.out.1.trans (R9.out.mono HA.out.1.size)) (all_more' HQ.out HA.out.2 (by rw [← HY.out]; exact led_other H3.out)))
          clear e1 e2 e3
          go_wp2
          go_roundg (go - 1)
          case rel => exact ⟨q + 1, by have := HJ.out; omega, by go_num, HE⟩
          case measure => have := HJ.out; omega
    · obtain rfl : q = vn := by omega
      have d0 : decide ((q : Int) < q) = false := by simp
      have HE : Hid (ledI n.s n.d n.k.mj n.k.ep = 0) := Lib.hid (if_pos (by rw [← HGE.out]; have h := HA.out.2; rwa [List.take_of_length_le (by have := HG.out; omega)] at h))
      go_wp2
      go_ret
      exact ⟨(by rw [HE.out]; first | done | rfl), LA.out.bel⟩
end Go.Proofs.YtccjelpfmkbmiaaGreatDoor.Tr
