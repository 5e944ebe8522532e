/-
  Merged texts: TrOver, ShListed, PgSame, HpSame, ShLaw, TrLaw, HpAwake, ShAwake, TrAwP.
-/
import Derived.Test.YtccjelpfmkbmiaaGreatDoorHpXI
import Derived.Test.YtccjelpfmkbmiaaGreatDoorHpXH
import Derived.Test.YtccjelpfmkbmiaaGreatDoorHpXB
import Derived.Test.YtccjelpfmkbmiaaGreatDoorHpXD
import Derived.Test.YtccjelpfmkbmiaaGreatDoorXTrStep
import Derived.Test.YtccjelpfmkbmiaaGreatDoorHpXG
import Derived.Test.YtccjelpfmkbmiaaGreatDoorHpXE
import Derived.Deep.CutRange
section
namespace Go.Proofs.YtccjelpfmkbmiaaGreatDoor.Tr
open Go.Proofs.YtccjelpfmkbmiaaGreatDoor Go.Proofs.YtccjelpfmkbmiaaGreatDoor.Rt
open Go.RowKit
open Go.Proofs.YtccjelpfmkbmiaaGreatDoor.Mu (hv kv w_load w_store w_loadg ldHb ldKb stHb stKb st_int ld_int p_load p_store ev region_plan noHs0 noK0)
set_option maxRecDepth 100000

set_option maxHeartbeats 1000000 in
theorem over_yes (n : Q2) (w : World) (hn : Hold w n) (hz : Cl.Sz w) (hf : Fine n.s n.d) (hx : n.xs.length ≤ 999000) (h4 : wh n.k n.xs = 4) : Calls Tryz.prog 30 #[(.agg #[.slice n.s.w.a n.s.w.n n.s.w.c, .slice n.s.p.a n.s.p.n n.s.p.c, .slice (n.s.u 0).a (n.s.u 0).n (n.s.u 0).c, .slice (n.s.u 1).a (n.s.u 1).n (n.s.u 1).c, .slice (n.s.u 2).a (n.s.u 2).n (n.s.u 2).c, .slice n.s.c.a n.s.c.n n.s.c.c]), (.agg #[.int .i64 n.k.ph, .int .i64 n.k.ep, .bool n.k.mj, .slice n.k.wk.a n.k.wk.n n.k.wk.c, .bool n.k.ov, .int .i64 n.k.pa, .int .i64 n.k.pf, .int .i64 n.k.ps, .int .i64 n.k.pc, .bool n.k.me])] w fun e w' => e = .returned (.bool (overB n.s n.d n.k n.xs)) ∧ Below w.heap.size w w' := by
  have HN := Lib.hid hn
  have HZ := Lib.hid hz
  have hwl : n.k.wk.n = n.xs.length := hn.c.len
  have C1 := Lib.hid (fun W => which_any n.k W (by omega))
  rw [wh_n n.k n.xs hwl] at C1
  have c1 : decide (wh n.k n.xs = 4) = true := decide_eq_true h4
  have c2 : (wh n.k n.xs == 4) = true := c1
  have HR : Hid (overB n.s n.d n.k n.xs = decide ((Sh.greyL n.s n.d n.k.mj n.k.ep).length = 0)) := Lib.hid (by unfold overB; rw [c1]; rfl)
  have C2 := Lib.hid (fun W (hW : Hold W n) (hz : Cl.Sz W) => Sh.grey_any n.s n.d n.k n.xs W hW.h hW.c hz hf)
  generalize Sh.greyL n.s n.d n.k.mj n.k.ep = G at C2 HR
  generalize wh n.k n.xs = z at C1 c1 c2
  clear hn hz hf h4 hwl hx
  go_enter Tryz.func30, Tryz.ntmps30
  go_upto_region 1 with fail
  obtain ⟨W1, hW1⟩ : ∃ W1, W1 = ((w.alloc (.cells #[.slice n.s.w.a n.s.w.n n.s.w.c, .slice n.s.p.a n.s.p.n n.s.p.c, .slice (n.s.u 0).a (n.s.u 0).n (n.s.u 0).c, .slice (n.s.u 1).a (n.s.u 1).n (n.s.u 1).c, .slice (n.s.u 2).a (n.s.u 2).n (n.s.u 2).c, .slice n.s.c.a n.s.c.n n.s.c.c] 28)).alloc (.cells #[.int .i64 n.k.ph, .int .i64 n.k.ep, .bool n.k.mj, .slice n.k.wk.a n.k.wk.n n.k.wk.c, .bool n.k.ov, .int .i64 n.k.pa, .int .i64 n.k.pf, .int .i64 n.k.ps, .int .i64 n.k.pc, .bool n.k.me] 30)) := ⟨_, rfl⟩
  have S1 : Hid (Wn 2 w W1 (p4 w.heap.size (w.heap.size + 1) (w.heap.size + 2) (w.heap.size + 3)) (c4 (hv n.s) (kv n.k) [] []) [n]) := Lib.hid (by
    rw [hW1]
    exact (wn_of (c := (c4 (hv n.s) (kv n.k) [] [])) (((lay_none w).add (hv n.s) 28).add (kv n.k) 30) (by decide) (all2 ⟨rfl, rfl⟩)).old HN.out)
  rw [← hW1]
  clear hW1
  go_wp2_with (first
    | (refine w_load (ldKb (show Box _ (w.heap.size + 1) (kv n.k) from S1.out.box 1 (by decide))) rfl rfl rfl rfl ?_)
    | ((go_at_call 71); (with_reducible refine (C1.out _).mono ?_); rintro e9 w9 ⟨rfl, hb9⟩; have S2 := Lib.hid (S1.out.next hb9); clear hb9)
    | (refine w_loadg (ldHb (show Box _ (w.heap.size) (hv n.s) from S2.out.box 0 (by decide))) rfl (by kernel_rfl) rfl rfl ?_)
    | (refine w_loadg (ldKb (show Box _ (w.heap.size + 1) (kv n.k) from S2.out.box 1 (by decide))) rfl (by kernel_rfl) rfl rfl ?_))
  refine (C2.out _ (S2.out.at n (by simp)) (S2.out.over HZ.out)).mono ?_
  rintro e9 w9 ⟨⟨ga, gn, gc⟩, rfl, ho9, hb9⟩
  have S3 := Lib.hid (S2.out.next hb9)
  have hgn : gn = G.length := by
    have h9 := ho9.1
    simpa using h9.symm
  clear hb9 ho9
  subst hgn
  have d1 : decide ((G.length : Int) = 0) = decide (G.length = 0) := by simp
  have d2 : ((G.length : Int) == 0) = decide (G.length = 0) := d1
  go_wp2
  go_ret
  exact ⟨(by rw [HR.out]; first | done | rfl | (rw [show decide (G.length = 0) = decide (G = []) by simp]; rfl)), S3.out.bel⟩
set_option maxHeartbeats 1000000 in
theorem over_no (n : Q2) (w : World) (hn : Hold w n) (hz : Cl.Sz w) (hx : n.xs.length ≤ 999000) (h4 : ¬ wh n.k n.xs = 4) : Calls Tryz.prog 30 #[(.agg #[.slice n.s.w.a n.s.w.n n.s.w.c, .slice n.s.p.a n.s.p.n n.s.p.c, .slice (n.s.u 0).a (n.s.u 0).n (n.s.u 0).c, .slice (n.s.u 1).a (n.s.u 1).n (n.s.u 1).c, .slice (n.s.u 2).a (n.s.u 2).n (n.s.u 2).c, .slice n.s.c.a n.s.c.n n.s.c.c]), (.agg #[.int .i64 n.k.ph, .int .i64 n.k.ep, .bool n.k.mj, .slice n.k.wk.a n.k.wk.n n.k.wk.c, .bool n.k.ov, .int .i64 n.k.pa, .int .i64 n.k.pf, .int .i64 n.k.ps, .int .i64 n.k.pc, .bool n.k.me])] w fun e w' => e = .returned (.bool (overB n.s n.d n.k n.xs)) ∧ Below w.heap.size w w' := by
  have HN := Lib.hid hn
  have HZ := Lib.hid hz
  have hwl : n.k.wk.n = n.xs.length := hn.c.len
  have C1 := Lib.hid (fun W => which_any n.k W (by omega))
  rw [wh_n n.k n.xs hwl] at C1
  have c1 : decide (wh n.k n.xs = 4) = false := decide_eq_false h4
  have c2 : (wh n.k n.xs == 4) = false := c1
  have HR : Hid (overB n.s n.d n.k n.xs = false) := Lib.hid (by unfold overB; rw [c1]; rfl)
  generalize wh n.k n.xs = z at C1 c1 c2
  clear hn hz h4 hwl hx
  go_enter Tryz.func30, Tryz.ntmps30
  go_upto_region 1 with fail
  obtain ⟨W1, hW1⟩ : ∃ W1, W1 = ((w.alloc (.cells #[.slice n.s.w.a n.s.w.n n.s.w.c, .slice n.s.p.a n.s.p.n n.s.p.c, .slice (n.s.u 0).a (n.s.u 0).n (n.s.u 0).c, .slice (n.s.u 1).a (n.s.u 1).n (n.s.u 1).c, .slice (n.s.u 2).a (n.s.u 2).n (n.s.u 2).c, .slice n.s.c.a n.s.c.n n.s.c.c] 28)).alloc (.cells #[.int .i64 n.k.ph, .int .i64 n.k.ep, .bool n.k.mj, .slice n.k.wk.a n.k.wk.n n.k.wk.c, .bool n.k.ov, .int .i64 n.k.pa, .int .i64 n.k.pf, .int .i64 n.k.ps, .int .i64 n.k.pc, .bool n.k.me] 30)) := ⟨_, rfl⟩
  have S1 : Hid (Wn 2 w W1 (p4 w.heap.size (w.heap.size + 1) (w.heap.size + 2) (w.heap.size + 3)) (c4 (hv n.s) (kv n.k) [] []) [n]) := Lib.hid (by
    rw [hW1]
    exact (wn_of (c := (c4 (hv n.s) (kv n.k) [] [])) (((lay_none w).add (hv n.s) 28).add (kv n.k) 30) (by decide) (all2 ⟨rfl, rfl⟩)).old HN.out)
  rw [← hW1]
  clear hW1
  go_wp2_with (first
    | (refine w_load (ldKb (show Box _ (w.heap.size + 1) (kv n.k) from S1.out.box 1 (by decide))) rfl rfl rfl rfl ?_)
    | ((go_at_call 71); (with_reducible refine (C1.out _).mono ?_); rintro e9 w9 ⟨rfl, hb9⟩; have S2 := Lib.hid (S1.out.next hb9); clear hb9))
  go_ret
  exact ⟨(by rw [HR.out]; first | done | rfl | (rw [show decide (G.length = 0) = decide (G = []) by simp]; rfl)), S2.out.bel⟩
theorem over_any (n : Q2) (w : World) (hn : Hold w n) (hz : Cl.Sz w) (hf : Fine n.s n.d) (hx : n.xs.length ≤ 999000) : Calls Tryz.prog 30 #[(.agg #[.slice n.s.w.a n.s.w.n n.s.w.c, .slice n.s.p.a n.s.p.n n.s.p.c, .slice (n.s.u 0).a (n.s.u 0).n (n.s.u 0).c, .slice (n.s.u 1).a (n.s.u 1).n (n.s.u 1).c, .slice (n.s.u 2).a (n.s.u 2).n (n.s.u 2).c, .slice n.s.c.a n.s.c.n n.s.c.c]), (.agg #[.int .i64 n.k.ph, .int .i64 n.k.ep, .bool n.k.mj, .slice n.k.wk.a n.k.wk.n n.k.wk.c, .bool n.k.ov, .int .i64 n.k.pa, .int .i64 n.k.pf, .int .i64 n.k.ps, .int .i64 n.k.pc, .bool n.k.me])] w fun e w' => e = .returned (.bool (overB n.s n.d n.k n.xs)) ∧ Below w.heap.size w w' := by
  by_cases h4 : wh n.k n.xs = 4
  · exact over_yes n w hn hz hf hx h4
  · exact over_no n w hn hz hx h4
end Go.Proofs.YtccjelpfmkbmiaaGreatDoor.Tr
end
section
namespace Go.Proofs.YtccjelpfmkbmiaaGreatDoor.Sh
open Go.Proofs.YtccjelpfmkbmiaaGreatDoor
open Go.RowKit
set_option maxRecDepth 100000

section
variable (s : Hs) (d : Hd_) (k : Ks) (xs g : List Int) (w : World)
end
end Go.Proofs.YtccjelpfmkbmiaaGreatDoor.Sh
end
section
namespace Go.Proofs.YtccjelpfmkbmiaaGreatDoor.Cl
open Go.Proofs.YtccjelpfmkbmiaaGreatDoor
set_option maxRecDepth 100000
open Go.RowKit

end Go.Proofs.YtccjelpfmkbmiaaGreatDoor.Cl
end
section
namespace Go.Proofs.YtccjelpfmkbmiaaGreatDoor
open Go.RowKit
set_option maxRecDepth 100000

/-- Two heaps' boxes. -/
structure Two (w W : World) (s t : Hs) (d d2 : Hd_) : Prop where
  bel : Below w.heap.size w W
  b1 : HBox W w.heap.size s
  b2 : HBox W (w.heap.size + 1) t
  h1 : Hp W W.heap.size s d
  h2 : Hp W W.heap.size t d2
theorem Two.next {w W W' : World} {s t : Hs} {d d2 : Hd_} (h : Two w W s t d d2) (hb : Below W.heap.size W W') : Two w W' s t d d2 := ⟨h.bel.trans (hb.mono h.bel.size), h.b1.next hb, h.b2.next hb, h.h1.next hb, h.h2.next hb⟩
end Go.Proofs.YtccjelpfmkbmiaaGreatDoor
end
section
namespace Go.Proofs.YtccjelpfmkbmiaaGreatDoor.Sh
open Go.Proofs.YtccjelpfmkbmiaaGreatDoor
open Go.RowKit
set_option maxRecDepth 100000

section
variable {w w3 w9 W W' : World} {s t : Hs} {d d' : Hd_} {k k' : Ks} {xs ys : List Int} {hs : List (Nat × Hs × Hd_)} {ks : List (Nat × Ks × List Int)} {b c : Nat} {v : Ls.Sl} {o : Bool}
end
end Go.Proofs.YtccjelpfmkbmiaaGreatDoor.Sh
end
section
namespace Go.Proofs.YtccjelpfmkbmiaaGreatDoor.Tr
open Go.Proofs.YtccjelpfmkbmiaaGreatDoor Go.Proofs.YtccjelpfmkbmiaaGreatDoor.Rt
open Go.RowKit
open Go.Proofs.YtccjelpfmkbmiaaGreatDoor.Mu (hv kv w_load w_store w_loadg ldHb ldKb stHb stKb st_int ld_int p_load p_store ev region_plan noHs0 noK0)
set_option maxRecDepth 100000

/-- Boxes and states of a walk that stores to none of them. -/
structure Lq (w W : World) (bs : List (Nat × List Value)) (ps : List Q2) : Prop where
  bel : Below w.heap.size w W
  box : ∀ x ∈ bs, Box W x.1 x.2
  hold : ∀ x ∈ ps, Hold W x
section
variable {w W W' : World} {bs : List (Nat × List Value)} {ps : List Q2} {n : Q2} {vs : List Value} {s t : Hs} {d : Hd_} {k : Sh.Ks} {xs : List Int}
theorem Lq.next (h : Lq w W bs ps) (hb : Below W.heap.size W W') : Lq w W' bs ps := ⟨h.bel.trans (hb.mono h.bel.size), fun x hx => (h.box x hx).next hb, fun x hx => (h.hold x hx).next hb⟩
theorem Lq.bx (h : Lq w W bs ps) (b : Nat) (vs : List Value) (hm : (b, vs) ∈ bs) : Box W b vs := h.box _ hm
theorem Lq.at (h : Lq w W bs ps) (n : Q2) (hm : n ∈ ps) : Hold W n := h.hold _ hm
theorem Lq.over (h : Lq w W bs ps) (hz : Cl.Sz w) : Cl.Sz W := hz.over h.bel hz.pos
theorem Lq.lay (h : Lq w W bs ps) (vs : List Value) (ty : TypeId) : Lq w (W.alloc (.cells vs.toArray ty)) ((W.heap.size, vs) :: bs) ps := by
  have n := h.next ((Below.refl W.heap.size W).alloc (Nat.le_refl _) (.cells vs.toArray ty))
  exact ⟨n.bel, fun x hx => (by
    rcases List.mem_cons.1 hx with rfl | hx
    · exact Box.new W vs ty
    · exact n.box x hx), n.hold⟩
theorem Lq.held (h : Lq w W bs ps) (hn : Hold W n) : Lq w W bs (n :: ps) := ⟨h.bel, h.box, fun x hx => (by
    rcases List.mem_cons.1 hx with rfl | hx
    · exact hn
    · exact h.hold x hx)⟩
theorem lq_none (w : World) : Lq w w [] [] := ⟨Below.refl _ _, fun x hx => (by cases hx), fun x hx => (by cases hx)⟩
/-- A heap and a collector in boxes of their own. -/
theorem Lq.two (h : Lq w W bs ps) {W0 : World} {t1 t2 : TypeId} (hW : W0 = (W.alloc (.cells (hv s).toArray t1)).alloc (.cells (kv k).toArray t2)) : Lq w W0 ((W.heap.size + 1, kv k) :: (W.heap.size, hv s) :: bs) ps := by
  have l := (h.lay (hv s) t1).lay (kv k) t2
  rw [World.size_alloc] at l
  rw [hW]
  exact l
/-- The walk's boxes as ones that it stores to. -/
theorem Lq.wn2 (h : Lq w W bs ps) (hs : (w.heap.size, hv n.s) ∈ bs) (hk : (w.heap.size + 1, kv n.k) ∈ bs) (hn : Hold w n) : Wn 2 w W (p4 w.heap.size (w.heap.size + 1) (w.heap.size + 2) (w.heap.size + 3)) (c4 (hv n.s) (kv n.k) [] []) [n] :=
  Wn.old ⟨h.bel, fun i hi => by rw [p4_at i (by omega)]; omega, inj4 (by decide), all2 ⟨h.bx _ _ hs, h.bx _ _ hk⟩, fun x hx => (by cases hx)⟩ hn
/-- What a step leaves of a heap. -/
theorem step_kin (s : Hs) (d : Hd_) (k : Sh.Ks) (xs : List Int) (hlen : d.ws.length = s.w.n) : Sh.Kin s s d (stepR s d k xs).d := by
  unfold stepR
  split
  · unfold onR
    split
    · unfold fieldR
      split
      · exact Sh.Kin.refl s d
      · split
        · exact (Sh.kin_sh (lens_refl s) hlen _ _ _).trans (Sh.kin_bl (lens_refl s) (by rw [sh_len]; exact hlen) _ _ _)
        · exact Sh.kin_sh (lens_refl s) hlen _ _ _
    · split
      · exact Sh.Kin.refl s d
      · split
        · rw [(seek_xs s d k xs).2]; exact Sh.Kin.refl s d
        · split <;> exact Sh.Kin.refl s d
  · exact Sh.Kin.refl s d
theorem step_same (s : Hs) (d : Hd_) (k : Sh.Ks) (xs : List Int) : (stepR s d k xs).k.mj = k.mj ∧ (stepR s d k xs).k.ep = k.ep := by
  unfold stepR
  split
  · unfold onR
    split
    · unfold fieldR
      split
      · exact ⟨rfl, rfl⟩
      · split <;> exact ⟨rfl, rfl⟩
    · split
      · exact ⟨rfl, rfl⟩
      · split
        · unfold seekR
          split <;> exact ⟨rfl, rfl⟩
        · split <;> exact ⟨rfl, rfl⟩
  · exact ⟨rfl, rfl⟩
theorem step_xs (s : Hs) (d : Hd_) (k : Sh.Ks) (xs : List Int) : (stepR s d k xs).xs.length ≤ xs.length + 1 := by
  unfold stepR
  split
  · unfold onR
    split
    · unfold fieldR
      split
      · exact Nat.le_succ _
      · split <;> exact (Sh.shX_len _ _ _).1
    · split
      · show (xs.take (xs.length - 1)).length ≤ _
        rw [List.length_take]
        omega
      · split
        · rw [(seek_xs s d k xs).1]; exact Nat.le_succ _
        · split <;> exact Nat.le_succ _
  · exact Nat.le_succ _
/-- What a law's arguments give. -/
theorem few_in (hf : Sh.fewK s k = true) (hp : Hp w w.heap.size s d) (hv : ∀ i, -9223372036854775808 ≤ d.ws.getD i 0 ∧ d.ws.getD i 0 ≤ 9223372036854775807) (hk : Sh.WRow w w.heap.size k xs) (hz : Cl.Sz w) : In w ⟨s, k, d, xs⟩ ∧ xs.length ≤ 100 ∧ s.w.n ≤ 130 ∧ d.ws.length = s.w.n := by
  unfold Sh.fewK at hf
  rw [Bool.and_eq_true, decide_eq_true_eq] at hf
  have hx : xs.length ≤ 100 := by rw [← hk.len]; exact hf.2
  exact ⟨⟨⟨hp, hk⟩, hz, fine_few hf.1 hp hv, by show xs.length ≤ _; omega⟩, hx, (few_parts hf.1).1, hp.words.1⟩
/-- The state that a step left, handed on. -/
theorem In.step {n m : Q2} {W0 : World} (h : In w n) (hlen : n.d.ws.length = n.s.w.n) (hx : n.xs.length ≤ 998999) (hl : Lens n.s m.s) (hd : m.d = (stepR n.s n.d n.k n.xs).d) (hxs : m.xs = (stepR n.s n.d n.k n.xs).xs) (hh : Hold W0 m) (hz : Cl.Sz W0) : In W0 m :=
  ⟨hh, hz, by rw [hd]; exact fine_lens hl ((step_kin n.s n.d n.k n.xs hlen).fine h.fine), by rw [hxs]; have := step_xs n.s n.d n.k n.xs; omega⟩
end
set_option maxHeartbeats 1000000 in
theorem few_any (s : Hs) (k : Sh.Ks) (w : World) : Calls Tryz.prog 23 #[(.agg #[.slice s.w.a s.w.n s.w.c, .slice s.p.a s.p.n s.p.c, .slice (s.u 0).a (s.u 0).n (s.u 0).c, .slice (s.u 1).a (s.u 1).n (s.u 1).c, .slice (s.u 2).a (s.u 2).n (s.u 2).c, .slice s.c.a s.c.n s.c.c]), (.agg #[.int .i64 k.ph, .int .i64 k.ep, .bool k.mj, .slice k.wk.a k.wk.n k.wk.c, .bool k.ov, .int .i64 k.pa, .int .i64 k.pf, .int .i64 k.ps, .int .i64 k.pc, .bool k.me])] w fun e w' => e = .returned (.bool (Sh.fewK s k)) ∧ Below w.heap.size w w' := by
  have C1 := Lib.hid (fun W => Go.Proofs.YtccjelpfmkbmiaaGreatDoor.rfew_any s W)
  obtain ⟨b1, h1⟩ : ∃ b, b = fewH s := ⟨_, rfl⟩
  obtain ⟨b2, h2⟩ : ∃ b, b = decide (k.wk.n ≤ 100) := ⟨_, rfl⟩
  have g2 : decide ((k.wk.n : Int) ≤ 100) = b2 := by rw [h2]; exact decide_eq_decide.2 (by omega)
  rw [show Sh.fewK s k = (b1 && b2) by unfold Sh.fewK; rw [h1, h2]]
  rw [← h1] at C1
  clear h1 h2
  go_enter Tryz.func23, Tryz.ntmps23
  go_upto_region 1 with fail
  obtain ⟨W1, hW1⟩ : ∃ W1, W1 = (w.alloc (.cells #[.slice s.w.a s.w.n s.w.c, .slice s.p.a s.p.n s.p.c, .slice (s.u 0).a (s.u 0).n (s.u 0).c, .slice (s.u 1).a (s.u 1).n (s.u 1).c, .slice (s.u 2).a (s.u 2).n (s.u 2).c, .slice s.c.a s.c.n s.c.c] 28)).alloc (.cells #[.int .i64 k.ph, .int .i64 k.ep, .bool k.mj, .slice k.wk.a k.wk.n k.wk.c, .bool k.ov, .int .i64 k.pa, .int .i64 k.pf, .int .i64 k.ps, .int .i64 k.pc, .bool k.me] 30) := ⟨_, rfl⟩
  have L1 := Lib.hid ((lq_none w).two (s := s) (k := k) hW1)
  rw [← hW1]
  clear hW1
  go_wp2_with (refine w_load (ldHb (L1.out.bx w.heap.size (hv s) (by simp))) rfl rfl rfl rfl ?_)
  refine (C1.out W1).mono ?_
  rintro e9 w2 ⟨rfl, hb2⟩
  have L2 := Lib.hid (L1.out.next hb2)
  clear hb2 L1
  have q3 := (L2.out.bx (w.heap.size + 1) (kv k) (by simp)).cel 3 (.slice k.wk.a k.wk.n k.wk.c) rfl
  cases b1
  · go_wp2
    go_ret
    exact ⟨rfl, L2.out.bel⟩
  · cases b2
    · go_wp2
      go_ret
      exact ⟨rfl, L2.out.bel⟩
    · go_wp2
      go_ret
      exact ⟨rfl, L2.out.bel⟩
end Go.Proofs.YtccjelpfmkbmiaaGreatDoor.Tr
end
section
namespace Go.Proofs.YtccjelpfmkbmiaaGreatDoor
open Go.RowKit
set_option maxRecDepth 100000

theorem make_ints (n : Nat) (h : n ≤ 1000) (w : World) : (Instr.makeSlice 22 (.int .i64 (n : Int)) (.int .i64 (n : Int))).run Tryz.prog w = .ok (.slice (some ⟨w.heap.size, 0, none⟩) n n) (w.alloc (.cells (madeCells #[.int .i64 0] n) 3)) := by
  obtain ⟨i0, hi, hz0, hz1, hz2⟩ := info_parts Ls.info_int1
  have := run_make (P := Tryz.prog) w 22 3 i0 _ Tryz.underlying22 hi hz0 .i64 .i64 n n (by omega) (Int.le_refl _) (by rw [hz2]; omega) (by omega)
  rw [hz1] at this
  simpa [Value.cells] using this
def sM (g gp gc : Nat) : Hs := ⟨⟨some ⟨g, 0, none⟩, 16, 16⟩, ⟨some ⟨gp, 0, none⟩, 1, 1⟩, Ls.noSl, ⟨some ⟨gc, 0, none⟩, 2, 2⟩⟩
def wsM : List Int := [0, 0, 0, 0, 0, 0, 0, 0, 41, 0, 0, 0, 0, 0, 0, 0]
theorem rep0 (n i : Nat) : (List.replicate n (0 : Int)).getD i 0 = 0 := by by_cases h : i < n <;> simp [List.getD, h]
def dM : Hd_ := ⟨wsM, fun _ => (1, 2), Ls.noLists, fun _ => false⟩
/-- What the example's heap lies in. -/
structure AwM (w wc : World) (b g gp gc : Nat) : Prop where
  hb : wc.heap[b]? = some (.cells #[.slice (some ⟨g, 0, none⟩) 16 16, .slice (some ⟨gp, 0, none⟩) 1 1, .slice none 0 0, .slice none 0 0, .slice none 0 0, .slice (some ⟨gc, 0, none⟩) 2 2] 28)
  hg : wc.heap[g]? = some (.cells (madeCells #[.int .i64 0] 16) 3)
  hp : wc.heap[gp]? = some (.cells #[.int .i64 1, .int .i64 2] 81)
  hc : wc.heap[gc]? = some (zBools 2)
  ap : ¬ g = gp ∧ ¬ g = gc ∧ ¬ g = b
  old : w.heap.size ≤ g
  bel : Below w.heap.size w wc
theorem four (W : World) (o1 o2 o3 o4 : Obj) : ((((W.alloc o1).alloc o2).alloc o3).alloc o4).heap[W.heap.size]? = some o1 ∧ ((((W.alloc o1).alloc o2).alloc o3).alloc o4).heap[W.heap.size + 1]? = some o2 ∧
    ((((W.alloc o1).alloc o2).alloc o3).alloc o4).heap[W.heap.size + 1 + 1]? = some o3 ∧ ((((W.alloc o1).alloc o2).alloc o3).alloc o4).heap[W.heap.size + 1 + 1 + 1]? = some o4 := by
  refine ⟨?_, ?_, ?_, ?_⟩
  · rw [Below.heap_alloc _ _ _ (by simp only [World.size_alloc]; omega), Below.heap_alloc _ _ _ (by simp only [World.size_alloc]; omega), Below.heap_alloc _ _ _ (by simp only [World.size_alloc]; omega)]
    exact World.alloc_heap_new W o1
  · rw [Below.heap_alloc _ _ _ (by simp only [World.size_alloc]; omega), Below.heap_alloc _ _ _ (by simp only [World.size_alloc]; omega)]
    have := World.alloc_heap_new (W.alloc o1) o2
    rwa [World.size_alloc] at this
  · rw [Below.heap_alloc _ _ _ (by simp)]
    have := World.alloc_heap_new ((W.alloc o1).alloc o2) o3
    rwa [World.size_alloc, World.size_alloc] at this
  · have := World.alloc_heap_new (((W.alloc o1).alloc o2).alloc o3) o4
    rwa [World.size_alloc, World.size_alloc, World.size_alloc] at this
theorem four_below (W : World) (o1 o2 o3 o4 : Obj) (q : Nat) : Below W.heap.size W (((((W.alloc o1).alloc o2).alloc o3).alloc o4).drewN q) :=
  below_drawn' (((((Below.refl _ _).alloc (Nat.le_refl _) o1).alloc (by simp) o2).alloc (by simp; omega) o3).alloc (by simp; omega) o4) q
theorem aw_box {w wc : World} {b g gp gc : Nat} (h : AwM w wc b g gp gc) : HBox wc b (sM g gp gc) := by
  have := h.hb
  exact ⟨by simp [World.cell?, this, sM], by simp [World.cell?, this, sM], by simp [World.cell?, this, sM, Ls.noSl], by simp [World.cell?, this, sM, Ls.noSl], by simp [World.cell?, this, sM, Ls.noSl], by simp [World.cell?, this, sM], (Array.getElem?_eq_some_iff.1 this).1⟩
theorem aw_word {w wc : World} {b g gp gc : Nat} (h : AwM w wc b g gp gc) : wc.cell? ⟨g, 8, none⟩ = some (.int .i64 0) ∧ wc.frozen? ⟨g, 8, none⟩ = false ∧ g < wc.heap.size := by
  have := h.hg
  exact ⟨by simp [World.cell?, this, madeCells], by simp [World.frozen?, this], (Array.getElem?_eq_some_iff.1 this).1⟩
def dZ : Hd_ := ⟨List.replicate 32 0, fun _ => (0, 0), Ls.noLists, fun _ => false⟩
def dK : Hd_ := ⟨wsM, fun _ => (1, 2), fun j => if j = 2 then [16] else [], fun _ => false⟩
/-- What the example holds: three heaps in their boxes, a head. -/
structure Six (w : World) (b1 b bk bx : Nat) (s1 s3 sk : Hs) (W : World) : Prop where
  h : HBox W b1 s1
  m : HBox W b s3
  k : HBox W bk sk
  ph : Hp W W.heap.size s1 dZ
  pm : Hp W W.heap.size s3 dM
  pk : Hp W W.heap.size sk dK
  n : W.cell? ⟨bx, 3, none⟩ = some (.int .i64 5)
  nl : bx < W.heap.size
  bel : Below w.heap.size w W
theorem Six.next {w W W' : World} {b1 b bk bx : Nat} {s1 s3 sk : Hs} (h : Six w b1 b bk bx s1 s3 sk W) (hb : Below W.heap.size W W') (h0 : w.heap.size ≤ W.heap.size) : Six w b1 b bk bx s1 s3 sk W' :=
  ⟨h.h.next hb, h.m.next hb, h.k.next hb, h.ph.next hb, h.pm.next hb, h.pk.next hb, (hb.cell (p := ⟨bx, 3, none⟩) h.nl).trans h.n, Nat.lt_of_lt_of_le h.nl hb.size, h.bel.trans (hb.mono h0)⟩
end Go.Proofs.YtccjelpfmkbmiaaGreatDoor
end
section
namespace Go.Proofs.YtccjelpfmkbmiaaGreatDoor.Sh
open Go.Proofs.YtccjelpfmkbmiaaGreatDoor
open Go.RowKit
set_option maxRecDepth 100000

end Go.Proofs.YtccjelpfmkbmiaaGreatDoor.Sh
end
section
namespace Go.Proofs.YtccjelpfmkbmiaaGreatDoor.Tr
open Go.Proofs.YtccjelpfmkbmiaaGreatDoor Go.Proofs.YtccjelpfmkbmiaaGreatDoor.Rt
open Go.RowKit
open Go.Proofs.YtccjelpfmkbmiaaGreatDoor.Mu (hv kv w_load w_store w_loadg ldHb ldKb stHb stKb st_int ld_int p_load p_store ev region_plan noHs0 noK0)
set_option maxRecDepth 100000

def dT : Hd_ := ⟨[33, 0, 24, 0, 0, 0, 0, 0, 41, 0, 0, 0, 0, 0, 0, 0], fun _ => (1, 2), Ls.noLists, fun _ => false⟩
def kT : Sh.Ks := ⟨5, 1, false, ⟨none, 0, 0⟩, false, 0, 0, 0, 0, false⟩
def stT : Nat → R3
  | 0 => ⟨⟨[4294967329, 0, 24, 0, 0, 0, 0, 0, 41, 0, 0, 0, 0, 0, 0, 0], fun _ => (1, 2), Ls.noLists, fun _ => false⟩, ⟨5, 1, false, ⟨none, 0, 0⟩, false, 0, 0, 0, 0, false⟩, [16]⟩
  | 1 => ⟨⟨[4294967329, 0, 24, 0, 0, 0, 0, 0, 41, 0, 0, 0, 0, 0, 0, 0], fun _ => (1, 2), Ls.noLists, fun _ => false⟩, ⟨5, 1, false, ⟨none, 0, 0⟩, false, 16, 0, 0, 0, false⟩, []⟩
  | 2 => ⟨⟨[4294967329, 0, 24, 0, 0, 0, 0, 0, 41, 0, 0, 0, 0, 0, 0, 0], fun _ => (1, 2), Ls.noLists, fun _ => false⟩, ⟨5, 1, false, ⟨none, 0, 0⟩, false, 16, 1, 0, 0, false⟩, []⟩
  | 3 => ⟨⟨[4294967329, 0, 24, 0, 0, 0, 0, 0, 4294967337, 0, 0, 0, 0, 0, 0, 0], fun _ => (1, 2), Ls.noLists, fun _ => false⟩, ⟨5, 1, false, ⟨none, 0, 0⟩, false, 16, 2, 0, 0, false⟩, [24]⟩
  | 4 => ⟨⟨[4294967329, 0, 24, 0, 0, 0, 0, 0, 4294967337, 0, 0, 0, 0, 0, 0, 0], fun _ => (1, 2), Ls.noLists, fun _ => false⟩, ⟨5, 1, false, ⟨none, 0, 0⟩, false, 16, 3, 0, 0, false⟩, [24]⟩
  | 5 => ⟨⟨[4294967333, 0, 24, 0, 0, 0, 0, 0, 4294967337, 0, 0, 0, 0, 0, 0, 0], fun _ => (1, 2), Ls.noLists, fun _ => false⟩, ⟨5, 1, false, ⟨none, 0, 0⟩, false, 0, 0, 0, 0, false⟩, [24]⟩
  | 6 => ⟨⟨[4294967333, 0, 24, 0, 0, 0, 0, 0, 4294967337, 0, 0, 0, 0, 0, 0, 0], fun _ => (1, 2), Ls.noLists, fun _ => false⟩, ⟨5, 1, false, ⟨none, 0, 0⟩, false, 24, 0, 0, 0, false⟩, []⟩
  | 7 => ⟨⟨[4294967333, 0, 24, 0, 0, 0, 0, 0, 4294967337, 0, 0, 0, 0, 0, 0, 0], fun _ => (1, 2), Ls.noLists, fun _ => false⟩, ⟨5, 1, false, ⟨none, 0, 0⟩, false, 24, 1, 0, 0, false⟩, []⟩
  | 8 => ⟨⟨[4294967333, 0, 24, 0, 0, 0, 0, 0, 4294967337, 0, 0, 0, 0, 0, 0, 0], fun _ => (1, 2), Ls.noLists, fun _ => false⟩, ⟨5, 1, false, ⟨none, 0, 0⟩, false, 24, 2, 0, 0, false⟩, []⟩
  | 9 => ⟨⟨[4294967333, 0, 24, 0, 0, 0, 0, 0, 4294967337, 0, 0, 0, 0, 0, 0, 0], fun _ => (1, 2), Ls.noLists, fun _ => false⟩, ⟨5, 1, false, ⟨none, 0, 0⟩, false, 24, 3, 0, 0, false⟩, []⟩
  | 10 => ⟨⟨[4294967333, 0, 24, 0, 0, 0, 0, 0, 4294967337, 0, 0, 0, 0, 0, 0, 0], fun _ => (1, 2), Ls.noLists, fun _ => false⟩, ⟨5, 1, false, ⟨none, 0, 0⟩, false, 24, 4, 0, 0, false⟩, []⟩
  | 11 => ⟨⟨[4294967333, 0, 24, 0, 0, 0, 0, 0, 4294967341, 0, 0, 0, 0, 0, 0, 0], fun _ => (1, 2), Ls.noLists, fun _ => false⟩, ⟨5, 1, false, ⟨none, 0, 0⟩, false, 0, 0, 0, 0, false⟩, []⟩
  | _ => ⟨⟨[4294967333, 0, 24, 0, 0, 0, 0, 0, 4294967341, 0, 0, 0, 0, 0, 0, 0], fun _ => (1, 2), Ls.noLists, fun _ => false⟩, ⟨6, 1, false, ⟨none, 0, 0⟩, false, 0, 0, 0, 0, false⟩, []⟩
theorem st_next (g gp gc : Nat) (i : Nat) (hi : i < 20) : stepR (sM g gp gc) (stT i).d (stT i).k (stT i).xs = stT (i + 1) :=
  match i, hi with
  | 0, _ => by kernel_rfl
  | 1, _ => by kernel_rfl
  | 2, _ => by kernel_rfl
  | 3, _ => by kernel_rfl
  | 4, _ => by kernel_rfl
  | 5, _ => by kernel_rfl
  | 6, _ => by kernel_rfl
  | 7, _ => by kernel_rfl
  | 8, _ => by kernel_rfl
  | 9, _ => by kernel_rfl
  | 10, _ => by kernel_rfl
  | 11, _ => by kernel_rfl
  | 12, _ => by kernel_rfl
  | 13, _ => by kernel_rfl
  | 14, _ => by kernel_rfl
  | 15, _ => by kernel_rfl
  | 16, _ => by kernel_rfl
  | 17, _ => by kernel_rfl
  | 18, _ => by kernel_rfl
  | 19, _ => by kernel_rfl
  | i + 20, hi => absurd hi (by omega)
theorem sh_T (g gp gc : Nat) : Sh.shD (sM g gp gc) dT false 1 16 = (stT 0).d ∧ Sh.isC (sM g gp gc) dT false 1 16 1 = true := ⟨by kernel_rfl, by kernel_rfl⟩
theorem first_T (g gp gc : Nat) : (stepR (sM g gp gc) dT kT []).k.ph = 6 := by kernel_rfl
theorem end_T (g gp gc : Nat) : headE (sM g gp gc) (stT 20).d 24 = 0 ∧ headV (sM g gp gc) (stT 20).d 24 = .agg #[.bool true, .bool false, .bool true, .int .i64 5, .int .i64 0, .int .i64 1] ∧ overB (sM g gp gc) (stT 20).d (stT 20).k (stT 20).xs = true := ⟨by kernel_rfl, by kernel_rfl, by kernel_rfl⟩
theorem fine_T (g gp gc : Nat) : Fine (sM g gp gc) dT := by
  refine ⟨by show (16 : Nat) ≤ 4000; omega, by show (1 : Nat) ≤ 200; omega, by show (2 : Nat) ≤ 100000; omega, fun i => ?_, by decide⟩
  have : ∀ l : List Int, (∀ x ∈ l, -9223372036854775808 ≤ x ∧ x ≤ 9223372036854775807) → ∀ i, -9223372036854775808 ≤ l.getD i 0 ∧ l.getD i 0 ≤ 9223372036854775807 := fun l hl i => by
    by_cases h : i < l.length
    · rw [show l.getD i 0 = l[i] by simp [List.getD, h]]
      exact hl _ (List.getElem_mem h)
    · rw [show l.getD i 0 = 0 by simp [List.getD, List.getElem?_eq_none (Nat.le_of_not_lt h)]]
      decide
  exact this dT.ws (by decide) i
/-- The example's heap while its words are put. -/
structure AwG (w W : World) (b g gp gc : Nat) (ws : List Int) : Prop where
  hb : HBox W b (sM g gp gc)
  fb : ∀ j, W.frozen? ⟨b, j, none⟩ = false
  hg : ∀ i, i < 16 → W.cell? ⟨g, i, none⟩ = some (.int .i64 (ws.getD i 0))
  fr : ∀ i, W.frozen? ⟨g, i, none⟩ = false
  lt : g < W.heap.size
  hp : Cl.PRow W W.heap.size (some ⟨gp, 0, none⟩) 1 (fun _ => (1, 2))
  hc : BRow W W.heap.size (some ⟨gc, 0, none⟩) 2 (fun _ => false)
  len : ws.length = 16
  ap : ¬ g = gp ∧ ¬ g = gc ∧ ¬ g = b
  old : w.heap.size ≤ g
  ob : w.heap.size ≤ b
  ap2 : ¬ b = gp ∧ ¬ b = gc
  bel : Below w.heap.size w W
theorem awg_start {w wc : World} {b g gp gc : Nat} (h : AwM w wc b g gp gc) (hb : w.heap.size ≤ b) : AwG w wc b g gp gc (List.replicate 16 0) := by
  have h1 := h.hb
  have h2 := h.hg
  refine ⟨aw_box h, fun j => by simp [World.frozen?, h1], fun i hi => ?_, fun i => by simp [World.frozen?, h2], (aw_word h).2.2, fun _ => ⟨gp, 0, rfl, (Array.getElem?_eq_some_iff.1 h.hp).1, fun i hi => ?_⟩, fun _ => ⟨gc, 0, rfl, (Array.getElem?_eq_some_iff.1 h.hc).1, fun i hi => ?_⟩, by simp, h.ap, h.old, hb, ⟨fun e => ?_, fun e => ?_⟩, h.bel⟩
  · rw [rep0]
    simp [World.cell?, h2, madeCells, hi, Nat.mod_one]
  · obtain rfl : i = 0 := by omega
    exact ⟨by simp [World.cell?, h.hp], by simp [World.cell?, h.hp]⟩
  · simp [World.cell?, h.hc, zBools, madeCells, hi, Nat.mod_one]
  · rw [e, h.hp] at h1
    simp at h1
  · rw [e, h.hc] at h1
    simp [zBools, madeCells] at h1
theorem AwG.set {w W : World} {b g gp gc : Nat} {ws : List Int} (h : AwG w W b g gp gc ws) (i : Nat) (x : Int) (hi : i < 16) : AwG w (W.setCell ⟨g, i, none⟩ (.int .i64 x)) b g gp gc (ws.set i x) := by
  have hs : ∀ k, ¬ k = g → (W.setCell ⟨g, i, none⟩ (.int .i64 x)).heap[k]? = W.heap[k]? := fun k hk => Below.heap_setCell _ _ _ _ hk
  have hz : (W.setCell ⟨g, i, none⟩ (.int .i64 x)).heap.size = W.heap.size := by simp [World.setCell]
  obtain ⟨a1, a2, a3⟩ := h.ap
  refine ⟨h.hb.same (hs b (fun e => a3 e.symm)) (by rw [hz]; exact Nat.le_refl _), fun j => by rw [World.frozen?_setCell]; exact h.fb j, fun j hj => ?_, fun j => by rw [World.frozen?_setCell]; exact h.fr j, by rw [hz]; exact h.lt, ?_, ?_, by simp [h.len], h.ap, h.old, h.ob, h.ap2, h.bel.setCell (p := ⟨g, i, none⟩) h.old _⟩
  · by_cases e : i = j
    · subst e
      have := World.cell?_setCell_same' W ⟨g, i, none⟩ (.int .i64 x) (by rw [h.hg i hi]; rfl)
      rw [this]
      simp [List.getD, h.len, hi]
    · rw [World.cell?_setCell_other _ _ _ _ (by intro hh; simp only [Addr.mk.injEq, true_and, and_true] at hh; exact e hh), h.hg j hj]
      simp [List.getD, List.getElem?_set_ne e]
  · rw [hz]
    exact Mu.prow_keep h.hp (fun _ y hy => by cases hy; exact hs gp (fun e => a1 e.symm))
  · rw [hz]
    exact Mu.brow_keep h.hc (fun _ y hy => by cases hy; exact hs gc (fun e => a2 e.symm))
theorem AwG.out {w W : World} {b g gp gc : Nat} {ws : List Int} (h : AwG w W b g gp gc ws) : Hp W W.heap.size (sM g gp gc) ⟨ws, fun _ => (1, 2), Ls.noLists, fun _ => false⟩ :=
  ⟨⟨h.len, fun _ => ⟨g, 0, rfl, h.lt, fun i hi => by rw [Nat.zero_add]; exact h.hg i hi⟩⟩, h.hp, Ls.L3.none_ _ _, h.hc⟩
theorem AwG.box {w W : World} {b g gp gc : Nat} {ws : List Int} (h : AwG w W b g gp gc ws) : Box W b (hv (sM g gp gc)) :=
  ⟨fun j v hj => by
    match j, hj with
    | 0, hj => cases hj; exact h.hb.c0
    | 1, hj => cases hj; exact h.hb.c1
    | 2, hj => cases hj; exact h.hb.c2
    | 3, hj => cases hj; exact h.hb.c3
    | 4, hj => cases hj; exact h.hb.c4
    | 5, hj => cases hj; exact h.hb.c5
    | j + 6, hj => exact absurd hj (by simp [hv]), h.fb, h.hb.lt⟩
/-- The states of the walk: what the i-th step left. -/
structure AtT (g gp gc : Nat) (i : Nat) (m : Q2) : Prop where
  len : Lens (sM g gp gc) m.s
  d : m.d = (stT i).d
  xs : m.xs = (stT i).xs
  k : m.k = Sh.kw (stT i).k m.k.wk (stT i).k.ov
  fine : Fine m.s m.d
theorem st_xs (i : Nat) : (stT i).xs.length ≤ 1 := by
  unfold stT
  split <;> decide
theorem st_len (i : Nat) : (stT i).d.ws.length = 16 := by
  unfold stT
  split <;> decide
theorem AtT.step {g gp gc i : Nat} {m z : Q2} (h : AtT g gp gc i m) (hi : i < 20) (hl : Lens m.s z.s) (hd : z.d = (stepR m.s m.d m.k m.xs).d) (hx : z.xs = (stepR m.s m.d m.k m.xs).xs) (hk : z.k = Sh.kw (stepR m.s m.d m.k m.xs).k z.k.wk (stepR m.s m.d m.k m.xs).k.ov) : AtT g gp gc (i + 1) z := by
  have e := st_of (n := ⟨sM g gp gc, (stT i).k, (stT i).d, (stT i).xs⟩) h.len h.d h.xs h.k hl hd hx hk
  have hn := st_next g gp gc i hi
  simp only [hn] at e
  have hlen : m.d.ws.length = m.s.w.n := by rw [h.d, st_len]; exact h.len.1.symm
  exact ⟨e.1, e.2.1, e.2.2.1, e.2.2.2, by rw [hd]; exact fine_lens hl ((step_kin m.s m.d m.k m.xs hlen).fine h.fine)⟩
theorem head_lens {s t : Hs} (hl : Lens s t) (d : Hd_) (a : Int) : headE t d a = headE s d a ∧ headV t d a = headV s d a := by
  have h1 : headE t d a = headE s d a := by
    unfold headE
    rw [may_lens hl, hl.2.1]
  refine ⟨h1, ?_⟩
  unfold headV
  rw [h1]
theorem grey_lens {s t : Hs} (hl : Lens s t) (d : Hd_) (mj : Bool) (ep : Int) : Sh.greyL t d mj ep = Sh.greyL s d mj ep := by
  unfold Sh.greyL
  rw [(Sh.kin_same (d := d) hl).used]
  exact List.filter_congr fun y _ => Sh.same_col hl y 2
theorem over_lens {s t : Hs} (hl : Lens s t) (d : Hd_) (k : Sh.Ks) (v : Ls.Sl) (xs : List Int) : overB t d (Sh.kw k v k.ov) xs = overB s d k xs := by
  unfold overB
  show (decide (wh k xs = 4) && decide ((Sh.greyL t d k.mj k.ep).length = 0)) = _
  rw [grey_lens hl]
theorem AtT.end {g gp gc : Nat} {m : Q2} (h : AtT g gp gc 20 m) : headE m.s m.d 24 = 0 ∧ headV m.s m.d 24 = .agg #[.bool true, .bool false, .bool true, .int .i64 5, .int .i64 0, .int .i64 1] ∧ overB m.s m.d m.k m.xs = true ∧ m.k.ph = 6 := by
  obtain ⟨e1, e2, e3⟩ := end_T g gp gc
  have l := head_lens h.len (stT 20).d 24
  refine ⟨by rw [h.d, l.1]; exact e1, by rw [h.d, l.2]; exact e2, ?_, by rw [h.k]; rfl⟩
  rw [h.d, h.xs, h.k, over_lens h.len]
  exact e3
/-- The boxes of the walk. -/
theorem wn_aw {w W W0 : World} {b g gp gc : Nat} {ty : TypeId} (h : AwG w W b g gp gc dT.ws) (hW : W0 = W.alloc (.cells (kv kT).toArray ty)) : Wn 2 w W0 (p4 b W.heap.size 0 0) (c4 (hv (sM g gp gc)) (kv kT) [] []) [⟨sM g gp gc, kT, dT, []⟩] := by
  have hb := (Below.refl W.heap.size W).alloc (Nat.le_refl _) (.cells (kv kT).toArray ty)
  have hx := Box.new W (kv kT) ty
  rw [← hW] at hb hx
  have hs := h.bel.size
  have hlt := h.box.lt
  have hh : Hold W ⟨sM g gp gc, kT, dT, []⟩ := ⟨h.out, Row.none_ _ _⟩
  refine ⟨h.bel.trans (hb.mono hs), all2 ⟨h.ob, hs⟩, ?_, all2 ⟨h.box.next hb, hx⟩, fun x hm => ?_⟩
  · intro i j hi hj hne
    have : ∀ i, i < 2 → p4 b W.heap.size 0 0 i = if i = 0 then b else W.heap.size := all2 ⟨rfl, rfl⟩
    rw [this i hi, this j hj]
    split <;> split <;> omega
  · rcases List.mem_singleton.1 hm with rfl
    refine ⟨hh.next hb, all2 ⟨⟨⟨?_, ?_, ?_, ?_⟩, ?_⟩, off_old hh (Nat.le_refl _)⟩⟩
    · intro _ x hx; cases hx; exact h.ap.2.2
    · intro _ x hx; cases hx; exact fun e => h.ap2.1 e.symm
    · intro j _ h0; exact absurd h0 (Nat.lt_irrefl 0)
    · intro _ x hx; cases hx; exact fun e => h.ap2.2 e.symm
    · intro h0; exact absurd h0 (Nat.lt_irrefl 0)
theorem Wn.third {w W W0 : World} {a b z : Nat} {x y vs : List Value} {n : Q2} (h : Wn 2 w W (p4 a b 0 0) (c4 x y [] []) [n]) (hb : Below W.heap.size W W0) (hB : Box W0 z vs) (hz : W.heap.size ≤ z) : Wn 3 w W0 (p4 a b z 0) (c4 x y vs []) [n] := by
  have nx := h.next hb
  have l0 : a < W.heap.size := h.lt (i := 0) (by decide)
  have l1 : b < W.heap.size := h.lt (i := 1) (by decide)
  have hab : ¬ a = b := h.inj 0 1 (by decide) (by decide) (by decide)
  refine ⟨nx.bel, all3 ⟨h.lo 0 (by decide), h.lo 1 (by decide), Nat.le_trans h.bel.size hz⟩, ?_, all3 ⟨nx.box 0 (by decide), nx.box 1 (by decide), hB⟩, fun q hq => ?_⟩
  · intro i j hi hj hne
    have : ∀ i, i < 3 → p4 a b z 0 i = if i = 0 then a else if i = 1 then b else z := all3 ⟨rfl, rfl, rfl⟩
    rw [this i hi, this j hj]
    repeat' split
    all_goals omega
  · rcases List.mem_singleton.1 hq with rfl
    exact ⟨nx.at _ (by simp), all3 ⟨(nx.hold _ (by simp)).2 0 (by decide), (nx.hold _ (by simp)).2 1 (by decide), off_old (h.at _ (by simp)) hz⟩⟩
theorem at_zero {g gp gc : Nat} {s' : Hs} {v : Ls.Sl} (hl : Lens (sM g gp gc) s') : AtT g gp gc 0 (shQ ⟨sM g gp gc, kT, dT, []⟩ 16 s' v) := by
  obtain ⟨e1, e2⟩ := sh_T g gp gc
  have e3 : white (sM g gp gc) dT kT 16 = true := e2
  refine ⟨hl, e1, ?_, ?_, ?_⟩
  · show Sh.shX (white (sM g gp gc) dT kT 16) [] 16 = [16]
    rw [e3]
    rfl
  · show Sh.kw kT v (Sh.shO (white (sM g gp gc) dT kT 16) [] false) = _
    rw [e3]
    rfl
  · exact fine_lens hl ((Sh.kin_sh (lens_refl _) rfl false 1 16).fine (fine_T g gp gc))
end Go.Proofs.YtccjelpfmkbmiaaGreatDoor.Tr
end
