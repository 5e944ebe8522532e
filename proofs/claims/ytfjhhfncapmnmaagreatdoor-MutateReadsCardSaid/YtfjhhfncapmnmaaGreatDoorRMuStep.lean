/-
  Package mutate: Step.
-/
import Derived.Test.YtfjhhfncapmnmaaGreatDoorHpRI
import Derived.Test.YtfjhhfncapmnmaaGreatDoorRMuPut
namespace Go.Proofs.YtfjhhfncapmnmaaGreatDoor.Mu
open Go.Proofs.YtfjhhfncapmnmaaGreatDoor Go.Proofs.YtfjhhfncapmnmaaGreatDoor.Rt
open Go.RowKit
set_option maxRecDepth 100000

/-- What Step tells. -/
def StepOut (w : World) (P : St) (e : Ending) (w' : World) : Prop :=
  ∃ n, e = .returned (.tuple #[(.agg #[.slice n.s.w.a n.s.w.n n.s.w.c, .slice n.s.p.a n.s.p.n n.s.p.c, .slice (n.s.u 0).a (n.s.u 0).n (n.s.u 0).c, .slice (n.s.u 1).a (n.s.u 1).n (n.s.u 1).c, .slice (n.s.u 2).a (n.s.u 2).n (n.s.u 2).c, .slice n.s.c.a n.s.c.n n.s.c.c]), (.agg #[.int .i64 n.k.ph, .int .i64 n.k.ep, .bool n.k.mj, .slice n.k.wk.a n.k.wk.n n.k.wk.c, .bool n.k.ov, .int .i64 n.k.pa, .int .i64 n.k.pf, .int .i64 n.k.ps, .int .i64 n.k.pc, .bool n.k.me]), (.agg #[.bool n.t.lv, .int .i64 (n.t.r 0), .int .i64 (n.t.r 1), .int .i64 (n.t.r 2), .int .i64 (n.t.r 3), .slice (n.t.u 0).a (n.t.u 0).n (n.t.u 0).c, .slice (n.t.u 1).a (n.t.u 1).n (n.t.u 1).c, .slice (n.t.u 2).a (n.t.u 2).n (n.t.u 2).c, .int .i64 n.t.ep, .int .i64 n.t.sg, .int .i64 n.t.rt, .slice n.t.o.a n.t.o.n n.t.o.c, .int .i64 n.t.pc, .int .i64 n.t.x, .int .i64 n.t.y]), .agg #[.int .i64 0, .int .i64 n.q.k, .int .i64 n.q.a, .int .i64 n.q.b, .int .i64 n.q.c, .int .i64 n.e, .int .i64 n.v], .bool n.b]) ∧ Eqv n P.n ∧ Hold w' ⟨n, P.d, P.xs, P.F, P.g⟩ ∧ NewN w.heap.size n ∧ Below w.heap.size w w'
/-- A turn that begins: with its operation. -/
def atP (n : Tn) (p : O4) : Tn := ⟨n.s, n.k, n.t, p, n.q, n.e, n.v, n.b⟩
def begN (s : Hs) (k : Sh.Ks) (t : Ts) (p : O4) : Tn := ⟨s, k, t, p, o0, 0, 0, false⟩
section
variable (s : Hs) (k : Sh.Ks) (t : Ts) (d : Hd_) (xs : List Int) (F : Nat → List Int) (g : Nat → O4) (w : World)
/-- What Step is handed. -/
structure In (w : World) (s : Hs) (k : Sh.Ks) (t : Ts) (d : Hd_) (xs : List Int) (F : Nat → List Int) (g : Nat → O4) : Prop where
  hp : Hp w w.heap.size s d
  wr : Sh.WRow w w.heap.size k xs
  th : Th w w.heap.size t F g
  sz : Cl.Sz w
  fine : FineT s d t.u F
  u : ∀ j, j < 3 → (t.u j).n ≤ 1000000
  o : t.o.n ≤ 100000
  x : xs.length ≤ 1000000
end
/-- What stands behind the first region: the turn in its box. -/
structure Sq (w W : World) (s : Hs) (k : Sh.Ks) (t : Ts) (b : Nat) (n : Tn) (d : Hd_) (xs : List Int) (F : Nat → List Int) (g : Nat → O4) : Prop where
  sp : Sp w W s k t
  box : Box W b (nv n)
  lo : w.heap.size + 7 ≤ b
  hold : Hold W ⟨n, d, xs, F, g⟩
  nw : NewN (w.heap.size + 7) n
  off : OffN b n
section
variable {w W W' : World} {s : Hs} {k : Sh.Ks} {t : Ts} {b : Nat} {n n' : Tn} {d d' : Hd_} {xs xs' : List Int} {F F' : Nat → List Int} {g g' : Nat → O4}
theorem Sq.next (h : Sq w W s k t b n d xs F g) (hb : Below W.heap.size W W') : Sq w W' s k t b n d xs F g := ⟨h.sp.next hb, h.box.next hb, h.lo, h.hold.next hb, h.nw, h.off⟩
/-- The turn's box is turned. -/
theorem Sq.turn {j : Nat} {cs : List Value} (h : Sq w W s k t b n d xs F g) (hb : Box (puts b j cs W) b (nv n')) (hh : Hold W ⟨n', d', xs', F', g'⟩) (hn : NewN (w.heap.size + 7) n') (ho : OffN b n') : Sq w (puts b j cs W) s k t b n' d' xs' F' g' :=
  ⟨h.sp.same (below_puts _ h.lo _ _ _ (Below.refl _ _)), hb, h.lo, hold_off hh ho (fun _ hk => puts_other _ _ _ _ hk) (puts_size _ _ _ _), hn, ho⟩
end
section
variable (s : Hs) (k : Sh.Ks) (t : Ts) (d : Hd_) (xs : List Int) (F : Nat → List Int) (g : Nat → O4) (w : World)
theorem taken_parts {s : Hs} {d : Hd_} {t : Ts} {F : Nat → List Int} (h : takenB s d t F = true) : mayT t = true ∧ 0 < t.o.n ∧ t.lv = true ∧ mayH s d 1 (fun _ => F) = true := by
  unfold takenB at h
  simp only [Bool.and_eq_true, decide_eq_true_eq] at h
  exact ⟨h.1, h.2.2.1, h.2.1, h.2.2.2⟩
theorem may_len {s s' : Hs} (h1 : s'.w.n = s.w.n) (h2 : s'.p.n = s.p.n) (h3 : s'.c.n = s.c.n) (d : Hd_) (m : Nat) (F : Nat → Nat → List Int) : mayH s' d m F = mayH s d m F := by
  unfold mayH firstB
  rw [h1, h2, h3]
theorem pre_of {w W : World} {s : Hs} {k : Sh.Ks} {t : Ts} {d : Hd_} {xs : List Int} {F : Nat → List Int} {g : Nat → O4} {n : Tn} (h : In w s k t d xs F g) (hT : takenB s d t F = true) (he : Eqv n (begN s k t (g 0))) (hb : Below w.heap.size w W) (hh : Hold W ⟨n, d, xs, F, g⟩) : Pre W ⟨n, d, xs, F, g⟩ := by
  have hf := h.fine.fine
  refine ⟨hh, h.sz.over hb h.sz.pos, ⟨?_, ?_, ?_, hf.hv, hf.len⟩, fun j hj => ?_, ?_, ?_, h.x, ?_⟩
  · rw [he.wn]; exact hf.wn
  · rw [he.pn]; exact hf.pn
  · rw [he.cn]; exact hf.cn
  · have h1 := hh.t.c.len j hj
    have h2 := h.th.c.len j hj
    have h3 := h.u j hj
    show (n.t.u j).n ≤ _
    have h4 : (n.t.u j).n = (F j).length := h1
    omega
  · rw [he.on]; exact h.o
  · rw [he.on]; exact (taken_parts hT).2.1
  · rw [may_len he.wn he.pn he.cn]; exact (taken_parts hT).2.2.2
set_option maxHeartbeats 4000000 in
theorem pstep_not (h : In w s k t d xs F g) (hT : takenB s d t F = false) : Calls Tryz.prog 13 #[(.agg #[.slice s.w.a s.w.n s.w.c, .slice s.p.a s.p.n s.p.c, .slice (s.u 0).a (s.u 0).n (s.u 0).c, .slice (s.u 1).a (s.u 1).n (s.u 1).c, .slice (s.u 2).a (s.u 2).n (s.u 2).c, .slice s.c.a s.c.n s.c.c]), (.agg #[.int .i64 k.ph, .int .i64 k.ep, .bool k.mj, .slice k.wk.a k.wk.n k.wk.c, .bool k.ov, .int .i64 k.pa, .int .i64 k.pf, .int .i64 k.ps, .int .i64 k.pc, .bool k.me]), (.agg #[.bool t.lv, .int .i64 (t.r 0), .int .i64 (t.r 1), .int .i64 (t.r 2), .int .i64 (t.r 3), .slice (t.u 0).a (t.u 0).n (t.u 0).c, .slice (t.u 1).a (t.u 1).n (t.u 1).c, .slice (t.u 2).a (t.u 2).n (t.u 2).c, .int .i64 t.ep, .int .i64 t.sg, .int .i64 t.rt, .slice t.o.a t.o.n t.o.c, .int .i64 t.pc, .int .i64 t.x, .int .i64 t.y])] w (StepOut w ⟨begN s k t o0, d, xs, F, g⟩) := by
  have HI := Lib.hid h
  have C2 := Lib.hid (fun W (hb : Below w.heap.size w W) => taken_any s d t F g W (h.hp.next hb) (h.th.next hb) (h.sz.over hb h.sz.pos) h.fine)
  rw [hT] at C2
  clear h hT
  go_enter Tryz.func13, Tryz.ntmps13
  go_upto_region 1 with fail
  obtain ⟨W1, hW1⟩ : ∃ W1, W1 = ((((((w.alloc (.cells #[.slice s.w.a s.w.n s.w.c, .slice s.p.a s.p.n s.p.c, .slice (s.u 0).a (s.u 0).n (s.u 0).c, .slice (s.u 1).a (s.u 1).n (s.u 1).c, .slice (s.u 2).a (s.u 2).n (s.u 2).c, .slice s.c.a s.c.n s.c.c] 28)).alloc (.cells #[.int .i64 k.ph, .int .i64 k.ep, .bool k.mj, .slice k.wk.a k.wk.n k.wk.c, .bool k.ov, .int .i64 k.pa, .int .i64 k.pf, .int .i64 k.ps, .int .i64 k.pc, .bool k.me] 30)).alloc (.cells #[.bool t.lv, .int .i64 (t.r 0), .int .i64 (t.r 1), .int .i64 (t.r 2), .int .i64 (t.r 3), .slice (t.u 0).a (t.u 0).n (t.u 0).c, .slice (t.u 1).a (t.u 1).n (t.u 1).c, .slice (t.u 2).a (t.u 2).n (t.u 2).c, .int .i64 t.ep, .int .i64 t.sg, .int .i64 t.rt, .slice t.o.a t.o.n t.o.c, .int .i64 t.pc, .int .i64 t.x, .int .i64 t.y] 34)).alloc (.cells #[.slice none 0 0, .slice none 0 0, .slice none 0 0, .slice none 0 0, .slice none 0 0, .slice none 0 0] 28)).alloc (.cells #[.int .i64 0, .int .i64 0, .bool false, .slice none 0 0, .bool false, .int .i64 0, .int .i64 0, .int .i64 0, .int .i64 0, .bool false] 30)).alloc (.cells #[.bool false, .int .i64 0, .int .i64 0, .int .i64 0, .int .i64 0, .slice none 0 0, .slice none 0 0, .slice none 0 0, .int .i64 0, .int .i64 0, .int .i64 0, .slice none 0 0, .int .i64 0, .int .i64 0, .int .i64 0] 34)).alloc (.cells #[.int .i64 0, .int .i64 0, .int .i64 0, .int .i64 0, .int .i64 0, .int .i64 0, .int .i64 0] 42) := ⟨_, rfl⟩
  have B1 := Lib.hid (sp_start s k t hW1)
  rw [← hW1]
  clear hW1
  refine Sh.region_gen fun a0 ha0 => ?_
  have G0 : a0.tmps[0]? = some ((.agg #[.slice s.w.a s.w.n s.w.c, .slice s.p.a s.p.n s.p.c, .slice (s.u 0).a (s.u 0).n (s.u 0).c, .slice (s.u 1).a (s.u 1).n (s.u 1).c, .slice (s.u 2).a (s.u 2).n (s.u 2).c, .slice s.c.a s.c.n s.c.c])) := by rw [ha0]; rfl
  have G1 : a0.tmps[1]? = some ((.agg #[.int .i64 k.ph, .int .i64 k.ep, .bool k.mj, .slice k.wk.a k.wk.n k.wk.c, .bool k.ov, .int .i64 k.pa, .int .i64 k.pf, .int .i64 k.ps, .int .i64 k.pc, .bool k.me])) := by rw [ha0]; rfl
  have G2 : a0.tmps[2]? = some ((.agg #[.bool t.lv, .int .i64 (t.r 0), .int .i64 (t.r 1), .int .i64 (t.r 2), .int .i64 (t.r 3), .slice (t.u 0).a (t.u 0).n (t.u 0).c, .slice (t.u 1).a (t.u 1).n (t.u 1).c, .slice (t.u 2).a (t.u 2).n (t.u 2).c, .int .i64 t.ep, .int .i64 t.sg, .int .i64 t.rt, .slice t.o.a t.o.n t.o.c, .int .i64 t.pc, .int .i64 t.x, .int .i64 t.y])) := by rw [ha0]; rfl
  have G3 : a0.tmps[3]? = some (.pointer (some ⟨w.heap.size, 0, none⟩)) := by rw [ha0]; rfl
  have G4 : a0.tmps[4]? = some (.pointer (some ⟨w.heap.size + 1, 0, none⟩)) := by rw [ha0]; rfl
  have G5 : a0.tmps[5]? = some (.pointer (some ⟨w.heap.size + 2, 0, none⟩)) := by rw [ha0]; rfl
  have G6 : a0.tmps[6]? = some (.pointer (some ⟨w.heap.size + 3, 0, none⟩)) := by rw [ha0]; rfl
  have G7 : a0.tmps[7]? = some (.pointer (some ⟨w.heap.size + 4, 0, none⟩)) := by rw [ha0]; rfl
  have G8 : a0.tmps[8]? = some (.pointer (some ⟨w.heap.size + 5, 0, none⟩)) := by rw [ha0]; rfl
  have G9 : a0.tmps[9]? = some (.pointer (some ⟨w.heap.size + 6, 0, none⟩)) := by rw [ha0]; rfl
  have G10 : a0.tmps[10]? = some (.bool false) := by rw [ha0]; rfl
  have G19 : a0.tmps[19]? = some undef := by rw [ha0]; rfl
  have G20 : a0.tmps[20]? = some undef := by rw [ha0]; rfl
  have G21 : a0.tmps[21]? = some undef := by rw [ha0]; rfl
  have G22 : a0.tmps[22]? = some undef := by rw [ha0]; rfl
  have G23 : a0.tmps[23]? = some undef := by rw [ha0]; rfl
  have G24 : a0.tmps[24]? = some undef := by rw [ha0]; rfl
  have G25 : a0.tmps[25]? = some undef := by rw [ha0]; rfl
  have G26 : a0.tmps[26]? = some undef := by rw [ha0]; rfl
  have G27 : a0.tmps[27]? = some undef := by rw [ha0]; rfl
  have G28 : a0.tmps[28]? = some undef := by rw [ha0]; rfl
  have G29 : a0.tmps[29]? = some undef := by rw [ha0]; rfl
  have G30 : a0.tmps[30]? = some undef := by rw [ha0]; rfl
  have G31 : a0.tmps[31]? = some undef := by rw [ha0]; rfl
  have G32 : a0.tmps[32]? = some undef := by rw [ha0]; rfl
  have G33 : a0.tmps[33]? = some undef := by rw [ha0]; rfl
  have G34 : a0.tmps[34]? = some undef := by rw [ha0]; rfl
  have G35 : a0.tmps[35]? = some undef := by rw [ha0]; rfl
  have G36 : a0.tmps[36]? = some undef := by rw [ha0]; rfl
  have G37 : a0.tmps[37]? = some undef := by rw [ha0]; rfl
  have G38 : a0.tmps[38]? = some undef := by rw [ha0]; rfl
  have TD : a0.defers = [] := congrArg Act.defers ha0
  have TZ : a0.tmps.size = 39 := by rw [ha0]; rfl
  clear ha0
  refine region_plan (by kernel_rfl) (by kernel_rfl) (by rw [TZ]; kernel_rfl) (fun (x : Gx) (i : Nat) => (match i with | 0 => (.agg #[.slice s.w.a s.w.n s.w.c, .slice s.p.a s.p.n s.p.c, .slice (s.u 0).a (s.u 0).n (s.u 0).c, .slice (s.u 1).a (s.u 1).n (s.u 1).c, .slice (s.u 2).a (s.u 2).n (s.u 2).c, .slice s.c.a s.c.n s.c.c]) | 1 => (.agg #[.slice x.s.w.a x.s.w.n x.s.w.c, .slice x.s.p.a x.s.p.n x.s.p.c, .slice (x.s.u 0).a (x.s.u 0).n (x.s.u 0).c, .slice (x.s.u 1).a (x.s.u 1).n (x.s.u 1).c, .slice (x.s.u 2).a (x.s.u 2).n (x.s.u 2).c, .slice x.s.c.a x.s.c.n x.s.c.c]) | 2 => (.agg #[.int .i64 k.ph, .int .i64 k.ep, .bool k.mj, .slice k.wk.a k.wk.n k.wk.c, .bool k.ov, .int .i64 k.pa, .int .i64 k.pf, .int .i64 k.ps, .int .i64 k.pc, .bool k.me]) | 3 => (.agg #[.int .i64 k.ph, .int .i64 k.ep, .bool k.mj, .slice x.v.a x.v.n x.v.c, .bool k.ov, .int .i64 k.pa, .int .i64 k.pf, .int .i64 k.ps, .int .i64 k.pc, .bool k.me]) | 4 => (.agg #[.bool t.lv, .int .i64 (t.r 0), .int .i64 (t.r 1), .int .i64 (t.r 2), .int .i64 (t.r 3), .slice (t.u 0).a (t.u 0).n (t.u 0).c, .slice (t.u 1).a (t.u 1).n (t.u 1).c, .slice (t.u 2).a (t.u 2).n (t.u 2).c, .int .i64 t.ep, .int .i64 t.sg, .int .i64 t.rt, .slice t.o.a t.o.n t.o.c, .int .i64 t.pc, .int .i64 t.x, .int .i64 t.y]) | 5 => (.agg #[.bool t.lv, .int .i64 (t.r 0), .int .i64 (t.r 1), .int .i64 (t.r 2), .int .i64 (t.r 3), .slice (x.u 0).a (x.u 0).n (x.u 0).c, .slice (x.u 1).a (x.u 1).n (x.u 1).c, .slice (x.u 2).a (x.u 2).n (x.u 2).c, .int .i64 t.ep, .int .i64 t.sg, .int .i64 t.rt, .slice x.o.a x.o.n x.o.c, .int .i64 t.pc, .int .i64 t.x, .int .i64 t.y]) | 6 => Value.agg (nv (gN x k t)).toArray | 7 => Value.pointer (some ⟨x.b, 0, none⟩) | _ => undef : Value)) (Jn w s k t d xs F g) ⟨noHs0, ⟨none, 0, 0⟩, Ls.noSl, ⟨none, 0, 0⟩, 0⟩ ?start ?step ?done
  case start => exact jn_start (B1.out.next ⟨rfl, rfl, rfl, Nat.le_refl _, fun _ _ => rfl⟩)
  case step =>
    rintro i o9 l a9 x W9 ho hP hI hl haft K hK
    have hi : i < 9 := (Array.getElem?_eq_some_iff.1 ho).1
    have hz9 := hI.sp.size
    rcases (show i = 0 ∨ i = 1 ∨ i = 2 ∨ i = 3 ∨ i = 4 ∨ i = 5 ∨ i = 6 ∨ i = 7 ∨ i = 8 by omega) with rfl | rfl | rfl | rfl | rfl | rfl | rfl | rfl | rfl
    · obtain rfl := Option.some.inj ho
      have q3 := (hP.keep (j := 3) (by kernel_rfl)).trans G3
      exact p_load rfl (ev q3) (ldHb hI.sp.hb) (hK x _ (fun _ _ => rfl) (hI.pure (i := 0) (by decide)))
    · obtain rfl := Option.some.inj ho
      have e0 := hP.got 0 _ 12 rfl (haft ⟨0, .data⟩ (by simp) rfl) rfl
      try dsimp only at e0
      have hE := hI.early (.inl rfl) hl
      go_simp
      refine (fresh_all s d W9 (HI.out.hp.next hI.sp.bel) HI.out.fine.fine).mono ?_
      rintro e9 w9 ⟨s', rfl, hp9, hL9, hn9, hb9⟩
      have n9 : News (w.heap.size + 7) s' := ⟨fun h0 y hy => Nat.le_trans hz9 (hn9.w h0 y hy), fun h0 y hy => Nat.le_trans hz9 (hn9.p h0 y hy), fun j hj h0 y hy => Nat.le_trans hz9 (hn9.u j hj h0 y hy), fun h0 y hy => Nat.le_trans hz9 (hn9.c h0 y hy)⟩
      have o9 : l 7 = true → OffH x.b s' := fun h7 => by
        have hb7 := (hI.h7 h7).2.1
        exact ⟨fun h0 y hy => by have := hn9.w h0 y hy; omega, fun h0 y hy => by have := hn9.p h0 y hy; omega, fun j hj h0 y hy => by have := hn9.u j hj h0 y hy; omega, fun h0 y hy => by have := hn9.c h0 y hy; omega⟩
      refine hK ⟨s', x.v, x.u, x.o, x.b⟩ _ ?_ ((hI.next hb9).set1 hl hp9 hL9 n9 o9)
      intro j hj
      match j, hj with
      | 0, hj => rfl
      | 1, hj => rw [hl] at hj; cases hj
      | 2, hj => rfl
      | 3, hj => rfl
      | 4, hj => rfl
      | 5, hj => rfl
      | 6, hj => rw [hE.1] at hj; cases hj
      | 7, hj => rfl
      | 8, hj => rfl
      | j + 9, _ => rfl
    · obtain rfl := Option.some.inj ho
      have q4 := (hP.keep (j := 4) (by kernel_rfl)).trans G4
      exact p_load rfl (ev q4) (ldKb hI.sp.kb) (hK x _ (fun _ _ => rfl) (hI.pure (i := 2) (by decide)))
    · obtain rfl := Option.some.inj ho
      have e2 := hP.got 2 _ 14 rfl (haft ⟨2, .data⟩ (by simp) rfl) rfl
      try dsimp only at e2
      have hE := hI.early (.inr (.inl rfl)) hl
      go_simp
      refine (Sh.fcol_any k xs W9 (HI.out.wr.next hI.sp.bel) HI.out.x).mono ?_
      rintro e9 w9 ⟨v', rfl, ha9⟩
      have hb9 := ha9.bel
      have rr := all_row9 ha9.own
      have n8 : 0 < v'.n → ∀ y, v'.a = some y → W9.heap.size ≤ y.block := fun h0 y hy => by
        have := (ha9.own.lt y.block (by rw [hy]; rfl)).1
        exact this
      refine hK ⟨x.s, v', x.u, x.o, x.b⟩ _ ?_ ((hI.next hb9).set3 hl rr (fun h0 y hy => Nat.le_trans hz9 (n8 h0 y hy)) (fun h7 h0 y hy => by have := (hI.h7 h7).2.1; have := n8 h0 y hy; omega))
      intro j hj
      match j, hj with
      | 0, hj => rfl
      | 1, hj => rfl
      | 2, hj => rfl
      | 3, hj => rw [hl] at hj; cases hj
      | 4, hj => rfl
      | 5, hj => rfl
      | 6, hj => rw [hE.1] at hj; cases hj
      | 7, hj => rfl
      | 8, hj => rfl
      | j + 9, _ => rfl
    · obtain rfl := Option.some.inj ho
      have q5 := (hP.keep (j := 5) (by kernel_rfl)).trans G5
      exact p_load rfl (ev q5) (ldTb hI.sp.tb) (hK x _ (fun _ _ => rfl) (hI.pure (i := 4) (by decide)))
    · obtain rfl := Option.some.inj ho
      have e4 := hP.got 4 _ 16 rfl (haft ⟨4, .data⟩ (by simp) rfl) rfl
      try dsimp only at e4
      have hE := hI.early (.inr (.inr rfl)) hl
      go_simp
      refine (fthread_any t F g W9 (HI.out.th.next hI.sp.bel) (fun j hj => by have := HI.out.u j hj; omega) HI.out.o).mono ?_
      rintro e9 w9 ⟨u', o', hon, rfl, hth, hx1, hx2, hb9⟩
      refine hK ⟨x.s, x.v, u', o', x.b⟩ _ ?_ ((hI.next hb9).set5 hl hth hon (fun j hj y hy => Nat.le_trans hz9 (hx1 j hj y hy)) (fun h0 y hy => Nat.le_trans hz9 (hx2 h0 y hy)) (fun h7 => by
        have hb7 := (hI.h7 h7).2.1
        exact ⟨fun j hj h0 y hy => by have := hx1 j hj y hy; omega, fun h0 y hy => by have := hx2 h0 y hy; omega⟩))
      intro j hj
      match j, hj with
      | 0, hj => rfl
      | 1, hj => rfl
      | 2, hj => rfl
      | 3, hj => rfl
      | 4, hj => rfl
      | 5, hj => rw [hl] at hj; cases hj
      | 6, hj => rw [hE.1] at hj; cases hj
      | 7, hj => rfl
      | 8, hj => rfl
      | j + 9, _ => rfl
    · obtain rfl := Option.some.inj ho
      have h1 := haft ⟨1, .data⟩ (by simp) rfl
      have h3 := haft ⟨3, .data⟩ (by simp) rfl
      have h5 := haft ⟨5, .data⟩ (by simp) rfl
      have e1 := hP.got 1 _ 13 rfl h1 rfl
      have e3 := hP.got 3 _ 15 rfl h3 rfl
      have e5 := hP.got 5 _ 17 rfl h5 rfl
      try dsimp only at e1 e3 e5
      go_simp
      exact hK x _ (fun _ _ => rfl) (hI.set6 h1 h3 h5)
    · obtain rfl := Option.some.inj ho
      go_simp
      have e8 : l 8 = false := by
        cases e : l 8 with
        | false => rfl
        | true => rw [(hI.c8 e).2] at hl; cases hl
      refine hK ⟨x.s, x.v, x.u, x.o, W9.heap.size⟩ _ ?_ (hI.set7 hl)
      intro j hj
      match j, hj with
      | 0, hj => rfl
      | 1, hj => rfl
      | 2, hj => rfl
      | 3, hj => rfl
      | 4, hj => rfl
      | 5, hj => rfl
      | 6, hj => rfl
      | 7, hj => rw [hl] at hj; cases hj
      | 8, hj => rfl
      | j + 9, _ => rfl
    · obtain rfl := Option.some.inj ho
      have h6 := haft ⟨6, .data⟩ (by simp) rfl
      have h7 := haft ⟨7, .data⟩ (by simp) rfl
      have e6 := hP.got 6 _ 18 rfl h6 rfl
      have e7 := hP.got 7 _ 11 rfl h7 rfl
      try dsimp only at e6 e7
      exact p_store rfl (ev e7) (ev e6) (stN ((hI.h7 h7).2.2 hl)) (hK x _ (fun _ _ => rfl) (hI.set8 hl h6 h7))
  case done =>
    rintro l a9 x W9 hP hI hall
    have h6 := hall 6 (by decide)
    have ea : a9 = { tmps := #[(.agg #[.slice s.w.a s.w.n s.w.c, .slice s.p.a s.p.n s.p.c, .slice (s.u 0).a (s.u 0).n (s.u 0).c, .slice (s.u 1).a (s.u 1).n (s.u 1).c, .slice (s.u 2).a (s.u 2).n (s.u 2).c, .slice s.c.a s.c.n s.c.c]), (.agg #[.int .i64 k.ph, .int .i64 k.ep, .bool k.mj, .slice k.wk.a k.wk.n k.wk.c, .bool k.ov, .int .i64 k.pa, .int .i64 k.pf, .int .i64 k.ps, .int .i64 k.pc, .bool k.me]), (.agg #[.bool t.lv, .int .i64 (t.r 0), .int .i64 (t.r 1), .int .i64 (t.r 2), .int .i64 (t.r 3), .slice (t.u 0).a (t.u 0).n (t.u 0).c, .slice (t.u 1).a (t.u 1).n (t.u 1).c, .slice (t.u 2).a (t.u 2).n (t.u 2).c, .int .i64 t.ep, .int .i64 t.sg, .int .i64 t.rt, .slice t.o.a t.o.n t.o.c, .int .i64 t.pc, .int .i64 t.x, .int .i64 t.y]), .pointer (some ⟨w.heap.size, 0, none⟩), .pointer (some ⟨w.heap.size + 1, 0, none⟩), .pointer (some ⟨w.heap.size + 2, 0, none⟩), .pointer (some ⟨w.heap.size + 3, 0, none⟩), .pointer (some ⟨w.heap.size + 4, 0, none⟩), .pointer (some ⟨w.heap.size + 5, 0, none⟩), .pointer (some ⟨w.heap.size + 6, 0, none⟩), .bool false, .pointer (some ⟨x.b, 0, none⟩), (.agg #[.slice s.w.a s.w.n s.w.c, .slice s.p.a s.p.n s.p.c, .slice (s.u 0).a (s.u 0).n (s.u 0).c, .slice (s.u 1).a (s.u 1).n (s.u 1).c, .slice (s.u 2).a (s.u 2).n (s.u 2).c, .slice s.c.a s.c.n s.c.c]), (.agg #[.slice x.s.w.a x.s.w.n x.s.w.c, .slice x.s.p.a x.s.p.n x.s.p.c, .slice (x.s.u 0).a (x.s.u 0).n (x.s.u 0).c, .slice (x.s.u 1).a (x.s.u 1).n (x.s.u 1).c, .slice (x.s.u 2).a (x.s.u 2).n (x.s.u 2).c, .slice x.s.c.a x.s.c.n x.s.c.c]), (.agg #[.int .i64 k.ph, .int .i64 k.ep, .bool k.mj, .slice k.wk.a k.wk.n k.wk.c, .bool k.ov, .int .i64 k.pa, .int .i64 k.pf, .int .i64 k.ps, .int .i64 k.pc, .bool k.me]), (.agg #[.int .i64 k.ph, .int .i64 k.ep, .bool k.mj, .slice x.v.a x.v.n x.v.c, .bool k.ov, .int .i64 k.pa, .int .i64 k.pf, .int .i64 k.ps, .int .i64 k.pc, .bool k.me]), (.agg #[.bool t.lv, .int .i64 (t.r 0), .int .i64 (t.r 1), .int .i64 (t.r 2), .int .i64 (t.r 3), .slice (t.u 0).a (t.u 0).n (t.u 0).c, .slice (t.u 1).a (t.u 1).n (t.u 1).c, .slice (t.u 2).a (t.u 2).n (t.u 2).c, .int .i64 t.ep, .int .i64 t.sg, .int .i64 t.rt, .slice t.o.a t.o.n t.o.c, .int .i64 t.pc, .int .i64 t.x, .int .i64 t.y]), (.agg #[.bool t.lv, .int .i64 (t.r 0), .int .i64 (t.r 1), .int .i64 (t.r 2), .int .i64 (t.r 3), .slice (x.u 0).a (x.u 0).n (x.u 0).c, .slice (x.u 1).a (x.u 1).n (x.u 1).c, .slice (x.u 2).a (x.u 2).n (x.u 2).c, .int .i64 t.ep, .int .i64 t.sg, .int .i64 t.rt, .slice x.o.a x.o.n x.o.c, .int .i64 t.pc, .int .i64 t.x, .int .i64 t.y]), .agg (nv (gN x k t)).toArray, undef, undef, undef, undef, undef, undef, undef, undef, undef, undef, undef, undef, undef, undef, undef, undef, undef, undef, undef, undef], defers := [] } := Sh.act_ext (hP.df.trans TD) fun j => by
      match j with
      | 0 => exact (hP.keep (j := 0) (by kernel_rfl)).trans G0
      | 1 => exact (hP.keep (j := 1) (by kernel_rfl)).trans G1
      | 2 => exact (hP.keep (j := 2) (by kernel_rfl)).trans G2
      | 3 => exact (hP.keep (j := 3) (by kernel_rfl)).trans G3
      | 4 => exact (hP.keep (j := 4) (by kernel_rfl)).trans G4
      | 5 => exact (hP.keep (j := 5) (by kernel_rfl)).trans G5
      | 6 => exact (hP.keep (j := 6) (by kernel_rfl)).trans G6
      | 7 => exact (hP.keep (j := 7) (by kernel_rfl)).trans G7
      | 8 => exact (hP.keep (j := 8) (by kernel_rfl)).trans G8
      | 9 => exact (hP.keep (j := 9) (by kernel_rfl)).trans G9
      | 10 => exact (hP.keep (j := 10) (by kernel_rfl)).trans G10
      | 11 => exact hP.got 7 _ 11 rfl (hall 7 (by decide)) rfl
      | 12 => exact hP.got 0 _ 12 rfl (hall 0 (by decide)) rfl
      | 13 => exact hP.got 1 _ 13 rfl (hall 1 (by decide)) rfl
      | 14 => exact hP.got 2 _ 14 rfl (hall 2 (by decide)) rfl
      | 15 => exact hP.got 3 _ 15 rfl (hall 3 (by decide)) rfl
      | 16 => exact hP.got 4 _ 16 rfl (hall 4 (by decide)) rfl
      | 17 => exact hP.got 5 _ 17 rfl (hall 5 (by decide)) rfl
      | 18 => exact hP.got 6 _ 18 rfl (hall 6 (by decide)) rfl
      | 19 => exact (hP.keep (j := 19) (by kernel_rfl)).trans G19
      | 20 => exact (hP.keep (j := 20) (by kernel_rfl)).trans G20
      | 21 => exact (hP.keep (j := 21) (by kernel_rfl)).trans G21
      | 22 => exact (hP.keep (j := 22) (by kernel_rfl)).trans G22
      | 23 => exact (hP.keep (j := 23) (by kernel_rfl)).trans G23
      | 24 => exact (hP.keep (j := 24) (by kernel_rfl)).trans G24
      | 25 => exact (hP.keep (j := 25) (by kernel_rfl)).trans G25
      | 26 => exact (hP.keep (j := 26) (by kernel_rfl)).trans G26
      | 27 => exact (hP.keep (j := 27) (by kernel_rfl)).trans G27
      | 28 => exact (hP.keep (j := 28) (by kernel_rfl)).trans G28
      | 29 => exact (hP.keep (j := 29) (by kernel_rfl)).trans G29
      | 30 => exact (hP.keep (j := 30) (by kernel_rfl)).trans G30
      | 31 => exact (hP.keep (j := 31) (by kernel_rfl)).trans G31
      | 32 => exact (hP.keep (j := 32) (by kernel_rfl)).trans G32
      | 33 => exact (hP.keep (j := 33) (by kernel_rfl)).trans G33
      | 34 => exact (hP.keep (j := 34) (by kernel_rfl)).trans G34
      | 35 => exact (hP.keep (j := 35) (by kernel_rfl)).trans G35
      | 36 => exact (hP.keep (j := 36) (by kernel_rfl)).trans G36
      | 37 => exact (hP.keep (j := 37) (by kernel_rfl)).trans G37
      | 38 => exact (hP.keep (j := 38) (by kernel_rfl)).trans G38
      | j + 39 => exact (Array.getElem?_eq_none (by rw [hP.sz, TZ]; omega)).trans (Array.getElem?_eq_none (show 39 ≤ j + 39 by omega)).symm
    subst ea
    have J2 := Lib.hid hI
    have HO := Lib.hid (hI.hold h6)
    have HX := Lib.hid (show Box W9 x.b (nv (gN x k t)) ∧ w.heap.size + 7 ≤ x.b from ⟨hI.h8 (hall 8 (by decide)), (hI.h7 (hall 7 (by decide))).1⟩)
    obtain ⟨n, hn⟩ : ∃ n, n = gN x k t := ⟨_, rfl⟩
    have hEq : Eqv n (begN s k t o0) := by
      rw [hn]
      obtain ⟨e1, e3, e5⟩ := hI.c6 h6
      have hL := (hI.h1 e1).2.1
      exact ⟨hL.1, hL.2.1, hL.2.2.2, rfl, rfl, (hI.h5 e5).2.1, rfl, rfl, rfl, rfl, rfl⟩
    have hNew : NewN (w.heap.size + 7) n := by
      rw [hn]
      obtain ⟨e1, e3, e5⟩ := hI.c6 h6
      exact ⟨(hI.h1 e1).2.2.1, (hI.h3 e3).2.1, fun j hj _ y hy => (hI.h5 e5).2.2.1.1 j hj y hy, (hI.h5 e5).2.2.1.2⟩
    have hOff : OffN x.b n := by rw [hn]; exact hI.off h6 (hall 7 (by decide))
    have S2 := Lib.hid (show Sq w W9 s k t x.b n d xs F g from ⟨hI.sp, by rw [hn]; exact HX.out.1, HX.out.2, by rw [hn]; exact HO.out, hNew, hOff⟩)
    have E2 := Lib.hid hEq
    rw [← hn]
    obtain ⟨b, hb⟩ : ∃ b, b = x.b := ⟨_, rfl⟩
    obtain ⟨x1, hx1⟩ : ∃ x1, x1 = x.s := ⟨_, rfl⟩
    obtain ⟨x2, hx2⟩ : ∃ x2, x2 = x.v := ⟨_, rfl⟩
    obtain ⟨x3, hx3⟩ : ∃ x3, x3 = x.u := ⟨_, rfl⟩
    obtain ⟨x4, hx4⟩ : ∃ x4, x4 = x.o := ⟨_, rfl⟩
    rw [← hb] at S2 ⊢
    rw [← hx1, ← hx2, ← hx3, ← hx4]
    clear hP hI hall h6 J2 HO HX hn hEq hNew hOff hb hx1 hx2 hx3 hx4 TD TZ G0 G1 G2 G3 G4 G5 G6 G7 G8 G9 G10 G19 G20 G21 G22 G23 G24 G25 G26 G27 G28 G29 G30 G31 G32 G33 G34 G35 G36 G37 G38
    go_upto_region 5 with (first
      | (refine w_load (ldHb S2.out.sp.hb) rfl rfl rfl rfl ?_)
      | (refine w_load (ldTb S2.out.sp.tb) rfl rfl rfl rfl ?_)
      | ((go_at_call 38); (with_reducible refine (C2.out _ S2.out.sp.bel).mono ?_); rintro e9 w3 ⟨rfl, hb9⟩; have S3 := Lib.hid (S2.out.next hb9); clear hb9))
    have S9 := S3
    have E9 := E2
    refine Sh.region_gen fun a0 ha0 => ?_
    have G11 : a0.tmps[11]? = some (.pointer (some ⟨b, 0, none⟩)) := by rw [ha0]; rfl
    have G6 : a0.tmps[6]? = some (.pointer (some ⟨w.heap.size + 3, 0, none⟩)) := by rw [ha0]; rfl
    have G7 : a0.tmps[7]? = some (.pointer (some ⟨w.heap.size + 4, 0, none⟩)) := by rw [ha0]; rfl
    have G8 : a0.tmps[8]? = some (.pointer (some ⟨w.heap.size + 5, 0, none⟩)) := by rw [ha0]; rfl
    have G9 : a0.tmps[9]? = some (.pointer (some ⟨w.heap.size + 6, 0, none⟩)) := by rw [ha0]; rfl
    have TD : a0.defers = [] := congrArg Act.defers ha0
    have TZ : a0.tmps.size = 39 := by rw [ha0]; rfl
    clear ha0
    refine region_plan (by kernel_rfl) (by kernel_rfl) (by rw [TZ]; kernel_rfl) (fun (_ : Unit) (i : Nat) => (match i with | 0 => Value.pointer (some ⟨b, 0, none⟩) | 1 => (.agg #[.slice n.s.w.a n.s.w.n n.s.w.c, .slice n.s.p.a n.s.p.n n.s.p.c, .slice (n.s.u 0).a (n.s.u 0).n (n.s.u 0).c, .slice (n.s.u 1).a (n.s.u 1).n (n.s.u 1).c, .slice (n.s.u 2).a (n.s.u 2).n (n.s.u 2).c, .slice n.s.c.a n.s.c.n n.s.c.c]) | 2 => Value.pointer (some ⟨b, 6, none⟩) | 3 => (.agg #[.int .i64 n.k.ph, .int .i64 n.k.ep, .bool n.k.mj, .slice n.k.wk.a n.k.wk.n n.k.wk.c, .bool n.k.ov, .int .i64 n.k.pa, .int .i64 n.k.pf, .int .i64 n.k.ps, .int .i64 n.k.pc, .bool n.k.me]) | 4 => Value.pointer (some ⟨b, 16, none⟩) | 5 => (.agg #[.bool n.t.lv, .int .i64 (n.t.r 0), .int .i64 (n.t.r 1), .int .i64 (n.t.r 2), .int .i64 (n.t.r 3), .slice (n.t.u 0).a (n.t.u 0).n (n.t.u 0).c, .slice (n.t.u 1).a (n.t.u 1).n (n.t.u 1).c, .slice (n.t.u 2).a (n.t.u 2).n (n.t.u 2).c, .int .i64 n.t.ep, .int .i64 n.t.sg, .int .i64 n.t.rt, .slice n.t.o.a n.t.o.n n.t.o.c, .int .i64 n.t.pc, .int .i64 n.t.x, .int .i64 n.t.y]) | 6 => Value.pointer (some ⟨b, 35, none⟩) | 7 => (.agg #[.int .i64 0, .int .i64 n.q.k, .int .i64 n.q.a, .int .i64 n.q.b, .int .i64 n.q.c, .int .i64 n.e, .int .i64 n.v]) | 8 => Value.pointer (some ⟨b, 42, none⟩) | 9 => Value.bool n.b | 14 => Value.bool n.b | _ => undef : Value)) (fun _ l W => R5 w b n d xs F g l W) () ?start ?step ?done
    case start => exact r5_start (S9.out.sp.next ⟨rfl, rfl, rfl, Nat.le_refl _, fun _ _ => rfl⟩) (S9.out.box.next ⟨rfl, rfl, rfl, Nat.le_refl _, fun _ _ => rfl⟩) (S9.out.hold.next ⟨rfl, rfl, rfl, Nat.le_refl _, fun _ _ => rfl⟩)
    case step =>
      rintro i o9 l a9 _ W9 ho hP hI hl haft K hK
      have hi : i < 15 := (Array.getElem?_eq_some_iff.1 ho).1
      rcases (show i = 0 ∨ i = 1 ∨ i = 2 ∨ i = 3 ∨ i = 4 ∨ i = 5 ∨ i = 6 ∨ i = 7 ∨ i = 8 ∨ i = 9 ∨ i = 10 ∨ i = 11 ∨ i = 12 ∨ i = 13 ∨ i = 14 by omega) with rfl | rfl | rfl | rfl | rfl | rfl | rfl | rfl | rfl | rfl | rfl | rfl | rfl | rfl | rfl
      · obtain rfl := Option.some.inj ho
        have q11 := (hP.keep (j := 11) (by kernel_rfl)).trans G11
        go_simp
        exact hK () _ (fun _ _ => rfl) (hI.pure (i := 0) (by decide))
      · obtain rfl := Option.some.inj ho
        have e9 := hP.got 0 _ 29 rfl (haft ⟨0, .data⟩ (by simp) rfl) rfl
        try dsimp only at e9
        exact p_load rfl (ev e9) (ldH hI.box) (hK () _ (fun _ _ => rfl) (hI.pure (i := 1) (by decide)))
      · obtain rfl := Option.some.inj ho
        have q11 := (hP.keep (j := 11) (by kernel_rfl)).trans G11
        go_simp
        exact hK () _ (fun _ _ => rfl) (hI.pure (i := 2) (by decide))
      · obtain rfl := Option.some.inj ho
        have e9 := hP.got 2 _ 31 rfl (haft ⟨2, .data⟩ (by simp) rfl) rfl
        try dsimp only at e9
        exact p_load rfl (ev e9) (ldK hI.box) (hK () _ (fun _ _ => rfl) (hI.pure (i := 3) (by decide)))
      · obtain rfl := Option.some.inj ho
        have q11 := (hP.keep (j := 11) (by kernel_rfl)).trans G11
        go_simp
        exact hK () _ (fun _ _ => rfl) (hI.pure (i := 4) (by decide))
      · obtain rfl := Option.some.inj ho
        have e9 := hP.got 4 _ 33 rfl (haft ⟨4, .data⟩ (by simp) rfl) rfl
        try dsimp only at e9
        exact p_load rfl (ev e9) (ldT hI.box) (hK () _ (fun _ _ => rfl) (hI.pure (i := 5) (by decide)))
      · obtain rfl := Option.some.inj ho
        have q11 := (hP.keep (j := 11) (by kernel_rfl)).trans G11
        go_simp
        exact hK () _ (fun _ _ => rfl) (hI.pure (i := 6) (by decide))
      · obtain rfl := Option.some.inj ho
        have e9 := hP.got 6 _ 35 rfl (haft ⟨6, .data⟩ (by simp) rfl) rfl
        try dsimp only at e9
        exact p_load rfl (ev e9) (ldQ hI.box) (hK () _ (fun _ _ => rfl) (hI.pure (i := 7) (by decide)))
      · obtain rfl := Option.some.inj ho
        have q11 := (hP.keep (j := 11) (by kernel_rfl)).trans G11
        go_simp
        exact hK () _ (fun _ _ => rfl) (hI.pure (i := 8) (by decide))
      · obtain rfl := Option.some.inj ho
        have e9 := hP.got 8 _ 37 rfl (haft ⟨8, .data⟩ (by simp) rfl) rfl
        try dsimp only at e9
        exact p_load rfl (ev e9) (ldB hI.box) (hK () _ (fun _ _ => rfl) (hI.pure (i := 9) (by decide)))
      · obtain rfl := Option.some.inj ho
        have e9 := hP.got 1 _ 30 rfl (haft ⟨1, .data⟩ (by simp) rfl) rfl
        try dsimp only at e9
        have q9 := (hP.keep (j := 6) (by kernel_rfl)).trans G6
        have hs : (Instr.storeAt 28 (.pointer (some ⟨w.heap.size + 3, 0, none⟩)) (.agg (hv n.s).toArray)).run Tryz.prog W9 = .ok () (puts (w.heap.size + 3) 0 (hv n.s) W9) := st hI.rh (o := 0) (by rw [sel_len (x := hv n.s) (y := hv noHs0) rfl]; exact Nat.le_of_eq (Nat.zero_add _)) _ infH (by kernel_rfl)
        exact p_store rfl (ev q9) (ev e9) hs (hK () _ (fun _ _ => rfl) (hI.put S9.out.nw S9.out.lo (i := 10) (by decide) (by decide) ⟨fun _ => rfl, (fun h => by cases h), (fun h => by cases h), (fun h => by cases h)⟩))
      · obtain rfl := Option.some.inj ho
        have e9 := hP.got 3 _ 32 rfl (haft ⟨3, .data⟩ (by simp) rfl) rfl
        try dsimp only at e9
        have q9 := (hP.keep (j := 7) (by kernel_rfl)).trans G7
        have hs : (Instr.storeAt 30 (.pointer (some ⟨w.heap.size + 4, 0, none⟩)) (.agg (kv n.k).toArray)).run Tryz.prog W9 = .ok () (puts (w.heap.size + 4) 0 (kv n.k) W9) := st hI.rk (o := 0) (by rw [sel_len (x := kv n.k) (y := kv noK0) rfl]; exact Nat.le_of_eq (Nat.zero_add _)) _ infK (by kernel_rfl)
        exact p_store rfl (ev q9) (ev e9) hs (hK () _ (fun _ _ => rfl) (hI.put S9.out.nw S9.out.lo (i := 11) (by decide) (by decide) ⟨(fun h => by cases h), fun _ => rfl, (fun h => by cases h), (fun h => by cases h)⟩))
      · obtain rfl := Option.some.inj ho
        have e9 := hP.got 5 _ 34 rfl (haft ⟨5, .data⟩ (by simp) rfl) rfl
        try dsimp only at e9
        have q9 := (hP.keep (j := 8) (by kernel_rfl)).trans G8
        have hs : (Instr.storeAt 34 (.pointer (some ⟨w.heap.size + 5, 0, none⟩)) (.agg (tv n.t).toArray)).run Tryz.prog W9 = .ok () (puts (w.heap.size + 5) 0 (tv n.t) W9) := st hI.rt (o := 0) (by rw [sel_len (x := tv n.t) (y := tv noT) rfl]; exact Nat.le_of_eq (Nat.zero_add _)) _ infT (by kernel_rfl)
        exact p_store rfl (ev q9) (ev e9) hs (hK () _ (fun _ _ => rfl) (hI.put S9.out.nw S9.out.lo (i := 12) (by decide) (by decide) ⟨(fun h => by cases h), (fun h => by cases h), fun _ => rfl, (fun h => by cases h)⟩))
      · obtain rfl := Option.some.inj ho
        have e9 := hP.got 7 _ 36 rfl (haft ⟨7, .data⟩ (by simp) rfl) rfl
        try dsimp only at e9
        have q9 := (hP.keep (j := 9) (by kernel_rfl)).trans G9
        have hs : (Instr.storeAt 42 (.pointer (some ⟨w.heap.size + 6, 0, none⟩)) (.agg (qv n.q n.e n.v).toArray)).run Tryz.prog W9 = .ok () (puts (w.heap.size + 6) 0 (qv n.q n.e n.v) W9) := st hI.rr (o := 0) (by rw [sel_len (x := qv n.q n.e n.v) (y := qv o0 0 0) rfl]; exact Nat.le_of_eq (Nat.zero_add _)) _ infQ (by kernel_rfl)
        exact p_store rfl (ev q9) (ev e9) hs (hK () _ (fun _ _ => rfl) (hI.put S9.out.nw S9.out.lo (i := 13) (by decide) (by decide) ⟨(fun h => by cases h), (fun h => by cases h), (fun h => by cases h), fun _ => rfl⟩))
      · obtain rfl := Option.some.inj ho
        have e9 := hP.got 9 _ 38 rfl (haft ⟨9, .data⟩ (by simp) rfl) rfl
        try dsimp only at e9
        go_simp
        exact hK () _ (fun _ _ => rfl) (hI.pure (i := 14) (by decide))
    case done =>
      rintro l a9 _ W9 hP hI hall
      have t6 := (hP.keep (j := 6) (by kernel_rfl)).trans G6
      have t7 := (hP.keep (j := 7) (by kernel_rfl)).trans G7
      have t8 := (hP.keep (j := 8) (by kernel_rfl)).trans G8
      have t9 := (hP.keep (j := 9) (by kernel_rfl)).trans G9
      have t10 := hP.got 14 _ 10 rfl (hall 14 (by decide)) rfl
      have td := hP.df.trans TD
      have xh := hI.rh
      have xk := hI.rk
      have xt := hI.rt
      have xr := hI.rr
      rw [hall 10 (by decide)] at xh
      rw [hall 11 (by decide)] at xk
      rw [hall 12 (by decide)] at xt
      rw [hall 13 (by decide)] at xr
      have Z9 := Lib.hid (And.intro hI.hold hI.bel)
      have Y9 := Lib.hid (And.intro xh (And.intro xk (And.intro xt xr)))
      clear hP hI hall xh xk xt xr
      go_wp2
      exact bodyPost_ret (res_step t6 t7 t8 t9 t10 Y9.out.1 Y9.out.2.1 Y9.out.2.2.1 Y9.out.2.2.2) td ⟨n, rfl, E9.out, Z9.out.1, S9.out.nw.less (by omega), Z9.out.2⟩
set_option maxHeartbeats 4000000 in
theorem pstep_yes (P' : St) (h : In w s k t d xs F g) (hT : takenB s d t F = true) (hm : ∀ W n, Eqv n (begN s k t (g 0)) → Pre W ⟨n, d, xs, F, g⟩ → Calls Tryz.prog 39 #[.agg (nv n).toArray] W (SOut W n P')) : Calls Tryz.prog 13 #[(.agg #[.slice s.w.a s.w.n s.w.c, .slice s.p.a s.p.n s.p.c, .slice (s.u 0).a (s.u 0).n (s.u 0).c, .slice (s.u 1).a (s.u 1).n (s.u 1).c, .slice (s.u 2).a (s.u 2).n (s.u 2).c, .slice s.c.a s.c.n s.c.c]), (.agg #[.int .i64 k.ph, .int .i64 k.ep, .bool k.mj, .slice k.wk.a k.wk.n k.wk.c, .bool k.ov, .int .i64 k.pa, .int .i64 k.pf, .int .i64 k.ps, .int .i64 k.pc, .bool k.me]), (.agg #[.bool t.lv, .int .i64 (t.r 0), .int .i64 (t.r 1), .int .i64 (t.r 2), .int .i64 (t.r 3), .slice (t.u 0).a (t.u 0).n (t.u 0).c, .slice (t.u 1).a (t.u 1).n (t.u 1).c, .slice (t.u 2).a (t.u 2).n (t.u 2).c, .int .i64 t.ep, .int .i64 t.sg, .int .i64 t.rt, .slice t.o.a t.o.n t.o.c, .int .i64 t.pc, .int .i64 t.x, .int .i64 t.y])] w (StepOut w P') := by
  have HI := Lib.hid h
  have HM := Lib.hid hm
  have HT := Lib.hid hT
  have C2 := Lib.hid (fun W (hb : Below w.heap.size w W) => taken_any s d t F g W (h.hp.next hb) (h.th.next hb) (h.sz.over hb h.sz.pos) h.fine)
  rw [hT] at C2
  have hon := (taken_parts hT).2.1
  obtain ⟨ob, off, ea, _, _⟩ := h.th.o hon
  have HA := Lib.hid ea
  have HN := Lib.hid hon
  clear h hm hT hon ea
  go_enter Tryz.func13, Tryz.ntmps13
  go_upto_region 1 with fail
  obtain ⟨W1, hW1⟩ : ∃ W1, W1 = ((((((w.alloc (.cells #[.slice s.w.a s.w.n s.w.c, .slice s.p.a s.p.n s.p.c, .slice (s.u 0).a (s.u 0).n (s.u 0).c, .slice (s.u 1).a (s.u 1).n (s.u 1).c, .slice (s.u 2).a (s.u 2).n (s.u 2).c, .slice s.c.a s.c.n s.c.c] 28)).alloc (.cells #[.int .i64 k.ph, .int .i64 k.ep, .bool k.mj, .slice k.wk.a k.wk.n k.wk.c, .bool k.ov, .int .i64 k.pa, .int .i64 k.pf, .int .i64 k.ps, .int .i64 k.pc, .bool k.me] 30)).alloc (.cells #[.bool t.lv, .int .i64 (t.r 0), .int .i64 (t.r 1), .int .i64 (t.r 2), .int .i64 (t.r 3), .slice (t.u 0).a (t.u 0).n (t.u 0).c, .slice (t.u 1).a (t.u 1).n (t.u 1).c, .slice (t.u 2).a (t.u 2).n (t.u 2).c, .int .i64 t.ep, .int .i64 t.sg, .int .i64 t.rt, .slice t.o.a t.o.n t.o.c, .int .i64 t.pc, .int .i64 t.x, .int .i64 t.y] 34)).alloc (.cells #[.slice none 0 0, .slice none 0 0, .slice none 0 0, .slice none 0 0, .slice none 0 0, .slice none 0 0] 28)).alloc (.cells #[.int .i64 0, .int .i64 0, .bool false, .slice none 0 0, .bool false, .int .i64 0, .int .i64 0, .int .i64 0, .int .i64 0, .bool false] 30)).alloc (.cells #[.bool false, .int .i64 0, .int .i64 0, .int .i64 0, .int .i64 0, .slice none 0 0, .slice none 0 0, .slice none 0 0, .int .i64 0, .int .i64 0, .int .i64 0, .slice none 0 0, .int .i64 0, .int .i64 0, .int .i64 0] 34)).alloc (.cells #[.int .i64 0, .int .i64 0, .int .i64 0, .int .i64 0, .int .i64 0, .int .i64 0, .int .i64 0] 42) := ⟨_, rfl⟩
  have B1 := Lib.hid (sp_start s k t hW1)
  rw [← hW1]
  clear hW1
  refine Sh.region_gen fun a0 ha0 => ?_
  have G0 : a0.tmps[0]? = some ((.agg #[.slice s.w.a s.w.n s.w.c, .slice s.p.a s.p.n s.p.c, .slice (s.u 0).a (s.u 0).n (s.u 0).c, .slice (s.u 1).a (s.u 1).n (s.u 1).c, .slice (s.u 2).a (s.u 2).n (s.u 2).c, .slice s.c.a s.c.n s.c.c])) := by rw [ha0]; rfl
  have G1 : a0.tmps[1]? = some ((.agg #[.int .i64 k.ph, .int .i64 k.ep, .bool k.mj, .slice k.wk.a k.wk.n k.wk.c, .bool k.ov, .int .i64 k.pa, .int .i64 k.pf, .int .i64 k.ps, .int .i64 k.pc, .bool k.me])) := by rw [ha0]; rfl
  have G2 : a0.tmps[2]? = some ((.agg #[.bool t.lv, .int .i64 (t.r 0), .int .i64 (t.r 1), .int .i64 (t.r 2), .int .i64 (t.r 3), .slice (t.u 0).a (t.u 0).n (t.u 0).c, .slice (t.u 1).a (t.u 1).n (t.u 1).c, .slice (t.u 2).a (t.u 2).n (t.u 2).c, .int .i64 t.ep, .int .i64 t.sg, .int .i64 t.rt, .slice t.o.a t.o.n t.o.c, .int .i64 t.pc, .int .i64 t.x, .int .i64 t.y])) := by rw [ha0]; rfl
  have G3 : a0.tmps[3]? = some (.pointer (some ⟨w.heap.size, 0, none⟩)) := by rw [ha0]; rfl
  have G4 : a0.tmps[4]? = some (.pointer (some ⟨w.heap.size + 1, 0, none⟩)) := by rw [ha0]; rfl
  have G5 : a0.tmps[5]? = some (.pointer (some ⟨w.heap.size + 2, 0, none⟩)) := by rw [ha0]; rfl
  have G6 : a0.tmps[6]? = some (.pointer (some ⟨w.heap.size + 3, 0, none⟩)) := by rw [ha0]; rfl
  have G7 : a0.tmps[7]? = some (.pointer (some ⟨w.heap.size + 4, 0, none⟩)) := by rw [ha0]; rfl
  have G8 : a0.tmps[8]? = some (.pointer (some ⟨w.heap.size + 5, 0, none⟩)) := by rw [ha0]; rfl
  have G9 : a0.tmps[9]? = some (.pointer (some ⟨w.heap.size + 6, 0, none⟩)) := by rw [ha0]; rfl
  have G10 : a0.tmps[10]? = some (.bool false) := by rw [ha0]; rfl
  have G19 : a0.tmps[19]? = some undef := by rw [ha0]; rfl
  have G20 : a0.tmps[20]? = some undef := by rw [ha0]; rfl
  have G21 : a0.tmps[21]? = some undef := by rw [ha0]; rfl
  have G22 : a0.tmps[22]? = some undef := by rw [ha0]; rfl
  have G23 : a0.tmps[23]? = some undef := by rw [ha0]; rfl
  have G24 : a0.tmps[24]? = some undef := by rw [ha0]; rfl
  have G25 : a0.tmps[25]? = some undef := by rw [ha0]; rfl
  have G26 : a0.tmps[26]? = some undef := by rw [ha0]; rfl
  have G27 : a0.tmps[27]? = some undef := by rw [ha0]; rfl
  have G28 : a0.tmps[28]? = some undef := by rw [ha0]; rfl
  have G29 : a0.tmps[29]? = some undef := by rw [ha0]; rfl
  have G30 : a0.tmps[30]? = some undef := by rw [ha0]; rfl
  have G31 : a0.tmps[31]? = some undef := by rw [ha0]; rfl
  have G32 : a0.tmps[32]? = some undef := by rw [ha0]; rfl
  have G33 : a0.tmps[33]? = some undef := by rw [ha0]; rfl
  have G34 : a0.tmps[34]? = some undef := by rw [ha0]; rfl
  have G35 : a0.tmps[35]? = some undef := by rw [ha0]; rfl
  have G36 : a0.tmps[36]? = some undef := by rw [ha0]; rfl
  have G37 : a0.tmps[37]? = some undef := by rw [ha0]; rfl
  have G38 : a0.tmps[38]? = some undef := by rw [ha0]; rfl
  have TD : a0.defers = [] := congrArg Act.defers ha0
  have TZ : a0.tmps.size = 39 := by rw [ha0]; rfl
  clear ha0
  refine region_plan (by kernel_rfl) (by kernel_rfl) (by rw [TZ]; kernel_rfl) (fun (x : Gx) (i : Nat) => (match i with | 0 => (.agg #[.slice s.w.a s.w.n s.w.c, .slice s.p.a s.p.n s.p.c, .slice (s.u 0).a (s.u 0).n (s.u 0).c, .slice (s.u 1).a (s.u 1).n (s.u 1).c, .slice (s.u 2).a (s.u 2).n (s.u 2).c, .slice s.c.a s.c.n s.c.c]) | 1 => (.agg #[.slice x.s.w.a x.s.w.n x.s.w.c, .slice x.s.p.a x.s.p.n x.s.p.c, .slice (x.s.u 0).a (x.s.u 0).n (x.s.u 0).c, .slice (x.s.u 1).a (x.s.u 1).n (x.s.u 1).c, .slice (x.s.u 2).a (x.s.u 2).n (x.s.u 2).c, .slice x.s.c.a x.s.c.n x.s.c.c]) | 2 => (.agg #[.int .i64 k.ph, .int .i64 k.ep, .bool k.mj, .slice k.wk.a k.wk.n k.wk.c, .bool k.ov, .int .i64 k.pa, .int .i64 k.pf, .int .i64 k.ps, .int .i64 k.pc, .bool k.me]) | 3 => (.agg #[.int .i64 k.ph, .int .i64 k.ep, .bool k.mj, .slice x.v.a x.v.n x.v.c, .bool k.ov, .int .i64 k.pa, .int .i64 k.pf, .int .i64 k.ps, .int .i64 k.pc, .bool k.me]) | 4 => (.agg #[.bool t.lv, .int .i64 (t.r 0), .int .i64 (t.r 1), .int .i64 (t.r 2), .int .i64 (t.r 3), .slice (t.u 0).a (t.u 0).n (t.u 0).c, .slice (t.u 1).a (t.u 1).n (t.u 1).c, .slice (t.u 2).a (t.u 2).n (t.u 2).c, .int .i64 t.ep, .int .i64 t.sg, .int .i64 t.rt, .slice t.o.a t.o.n t.o.c, .int .i64 t.pc, .int .i64 t.x, .int .i64 t.y]) | 5 => (.agg #[.bool t.lv, .int .i64 (t.r 0), .int .i64 (t.r 1), .int .i64 (t.r 2), .int .i64 (t.r 3), .slice (x.u 0).a (x.u 0).n (x.u 0).c, .slice (x.u 1).a (x.u 1).n (x.u 1).c, .slice (x.u 2).a (x.u 2).n (x.u 2).c, .int .i64 t.ep, .int .i64 t.sg, .int .i64 t.rt, .slice x.o.a x.o.n x.o.c, .int .i64 t.pc, .int .i64 t.x, .int .i64 t.y]) | 6 => Value.agg (nv (gN x k t)).toArray | 7 => Value.pointer (some ⟨x.b, 0, none⟩) | _ => undef : Value)) (Jn w s k t d xs F g) ⟨noHs0, ⟨none, 0, 0⟩, Ls.noSl, ⟨none, 0, 0⟩, 0⟩ ?start ?step ?done
  case start => exact jn_start (B1.out.next ⟨rfl, rfl, rfl, Nat.le_refl _, fun _ _ => rfl⟩)
  case step =>
    rintro i o9 l a9 x W9 ho hP hI hl haft K hK
    have hi : i < 9 := (Array.getElem?_eq_some_iff.1 ho).1
    have hz9 := hI.sp.size
    rcases (show i = 0 ∨ i = 1 ∨ i = 2 ∨ i = 3 ∨ i = 4 ∨ i = 5 ∨ i = 6 ∨ i = 7 ∨ i = 8 by omega) with rfl | rfl | rfl | rfl | rfl | rfl | rfl | rfl | rfl
    · obtain rfl := Option.some.inj ho
      have q3 := (hP.keep (j := 3) (by kernel_rfl)).trans G3
      exact p_load rfl (ev q3) (ldHb hI.sp.hb) (hK x _ (fun _ _ => rfl) (hI.pure (i := 0) (by decide)))
    · obtain rfl := Option.some.inj ho
      have e0 := hP.got 0 _ 12 rfl (haft ⟨0, .data⟩ (by simp) rfl) rfl
      try dsimp only at e0
      have hE := hI.early (.inl rfl) hl
      go_simp
      refine (fresh_all s d W9 (HI.out.hp.next hI.sp.bel) HI.out.fine.fine).mono ?_
      rintro e9 w9 ⟨s', rfl, hp9, hL9, hn9, hb9⟩
      have n9 : News (w.heap.size + 7) s' := ⟨fun h0 y hy => Nat.le_trans hz9 (hn9.w h0 y hy), fun h0 y hy => Nat.le_trans hz9 (hn9.p h0 y hy), fun j hj h0 y hy => Nat.le_trans hz9 (hn9.u j hj h0 y hy), fun h0 y hy => Nat.le_trans hz9 (hn9.c h0 y hy)⟩
      have o9 : l 7 = true → OffH x.b s' := fun h7 => by
        have hb7 := (hI.h7 h7).2.1
        exact ⟨fun h0 y hy => by have := hn9.w h0 y hy; omega, fun h0 y hy => by have := hn9.p h0 y hy; omega, fun j hj h0 y hy => by have := hn9.u j hj h0 y hy; omega, fun h0 y hy => by have := hn9.c h0 y hy; omega⟩
      refine hK ⟨s', x.v, x.u, x.o, x.b⟩ _ ?_ ((hI.next hb9).set1 hl hp9 hL9 n9 o9)
      intro j hj
      match j, hj with
      | 0, hj => rfl
      | 1, hj => rw [hl] at hj; cases hj
      | 2, hj => rfl
      | 3, hj => rfl
      | 4, hj => rfl
      | 5, hj => rfl
      | 6, hj => rw [hE.1] at hj; cases hj
      | 7, hj => rfl
      | 8, hj => rfl
      | j + 9, _ => rfl
    · obtain rfl := Option.some.inj ho
      have q4 := (hP.keep (j := 4) (by kernel_rfl)).trans G4
      exact p_load rfl (ev q4) (ldKb hI.sp.kb) (hK x _ (fun _ _ => rfl) (hI.pure (i := 2) (by decide)))
    · obtain rfl := Option.some.inj ho
      have e2 := hP.got 2 _ 14 rfl (haft ⟨2, .data⟩ (by simp) rfl) rfl
      try dsimp only at e2
      have hE := hI.early (.inr (.inl rfl)) hl
      go_simp
      refine (Sh.fcol_any k xs W9 (HI.out.wr.next hI.sp.bel) HI.out.x).mono ?_
      rintro e9 w9 ⟨v', rfl, ha9⟩
      have hb9 := ha9.bel
      have rr := all_row9 ha9.own
      have n8 : 0 < v'.n → ∀ y, v'.a = some y → W9.heap.size ≤ y.block := fun h0 y hy => by
        have := (ha9.own.lt y.block (by rw [hy]; rfl)).1
        exact this
      refine hK ⟨x.s, v', x.u, x.o, x.b⟩ _ ?_ ((hI.next hb9).set3 hl rr (fun h0 y hy => Nat.le_trans hz9 (n8 h0 y hy)) (fun h7 h0 y hy => by have := (hI.h7 h7).2.1; have := n8 h0 y hy; omega))
      intro j hj
      match j, hj with
      | 0, hj => rfl
      | 1, hj => rfl
      | 2, hj => rfl
      | 3, hj => rw [hl] at hj; cases hj
      | 4, hj => rfl
      | 5, hj => rfl
      | 6, hj => rw [hE.1] at hj; cases hj
      | 7, hj => rfl
      | 8, hj => rfl
      | j + 9, _ => rfl
    · obtain rfl := Option.some.inj ho
      have q5 := (hP.keep (j := 5) (by kernel_rfl)).trans G5
      exact p_load rfl (ev q5) (ldTb hI.sp.tb) (hK x _ (fun _ _ => rfl) (hI.pure (i := 4) (by decide)))
    · obtain rfl := Option.some.inj ho
      have e4 := hP.got 4 _ 16 rfl (haft ⟨4, .data⟩ (by simp) rfl) rfl
      try dsimp only at e4
      have hE := hI.early (.inr (.inr rfl)) hl
      go_simp
      refine (fthread_any t F g W9 (HI.out.th.next hI.sp.bel) (fun j hj => by have := HI.out.u j hj; omega) HI.out.o).mono ?_
      rintro e9 w9 ⟨u', o', hon, rfl, hth, hx1, hx2, hb9⟩
      refine hK ⟨x.s, x.v, u', o', x.b⟩ _ ?_ ((hI.next hb9).set5 hl hth hon (fun j hj y hy => Nat.le_trans hz9 (hx1 j hj y hy)) (fun h0 y hy => Nat.le_trans hz9 (hx2 h0 y hy)) (fun h7 => by
        have hb7 := (hI.h7 h7).2.1
        exact ⟨fun j hj h0 y hy => by have := hx1 j hj y hy; omega, fun h0 y hy => by have := hx2 h0 y hy; omega⟩))
      intro j hj
      match j, hj with
      | 0, hj => rfl
      | 1, hj => rfl
      | 2, hj => rfl
      | 3, hj => rfl
      | 4, hj => rfl
      | 5, hj => rw [hl] at hj; cases hj
      | 6, hj => rw [hE.1] at hj; cases hj
      | 7, hj => rfl
      | 8, hj => rfl
      | j + 9, _ => rfl
    · obtain rfl := Option.some.inj ho
      have h1 := haft ⟨1, .data⟩ (by simp) rfl
      have h3 := haft ⟨3, .data⟩ (by simp) rfl
      have h5 := haft ⟨5, .data⟩ (by simp) rfl
      have e1 := hP.got 1 _ 13 rfl h1 rfl
      have e3 := hP.got 3 _ 15 rfl h3 rfl
      have e5 := hP.got 5 _ 17 rfl h5 rfl
      try dsimp only at e1 e3 e5
      go_simp
      exact hK x _ (fun _ _ => rfl) (hI.set6 h1 h3 h5)
    · obtain rfl := Option.some.inj ho
      go_simp
      have e8 : l 8 = false := by
        cases e : l 8 with
        | false => rfl
        | true => rw [(hI.c8 e).2] at hl; cases hl
      refine hK ⟨x.s, x.v, x.u, x.o, W9.heap.size⟩ _ ?_ (hI.set7 hl)
      intro j hj
      match j, hj with
      | 0, hj => rfl
      | 1, hj => rfl
      | 2, hj => rfl
      | 3, hj => rfl
      | 4, hj => rfl
      | 5, hj => rfl
      | 6, hj => rfl
      | 7, hj => rw [hl] at hj; cases hj
      | 8, hj => rfl
      | j + 9, _ => rfl
    · obtain rfl := Option.some.inj ho
      have h6 := haft ⟨6, .data⟩ (by simp) rfl
      have h7 := haft ⟨7, .data⟩ (by simp) rfl
      have e6 := hP.got 6 _ 18 rfl h6 rfl
      have e7 := hP.got 7 _ 11 rfl h7 rfl
      try dsimp only at e6 e7
      exact p_store rfl (ev e7) (ev e6) (stN ((hI.h7 h7).2.2 hl)) (hK x _ (fun _ _ => rfl) (hI.set8 hl h6 h7))
  case done =>
    rintro l a9 x W9 hP hI hall
    have h6 := hall 6 (by decide)
    have ea : a9 = { tmps := #[(.agg #[.slice s.w.a s.w.n s.w.c, .slice s.p.a s.p.n s.p.c, .slice (s.u 0).a (s.u 0).n (s.u 0).c, .slice (s.u 1).a (s.u 1).n (s.u 1).c, .slice (s.u 2).a (s.u 2).n (s.u 2).c, .slice s.c.a s.c.n s.c.c]), (.agg #[.int .i64 k.ph, .int .i64 k.ep, .bool k.mj, .slice k.wk.a k.wk.n k.wk.c, .bool k.ov, .int .i64 k.pa, .int .i64 k.pf, .int .i64 k.ps, .int .i64 k.pc, .bool k.me]), (.agg #[.bool t.lv, .int .i64 (t.r 0), .int .i64 (t.r 1), .int .i64 (t.r 2), .int .i64 (t.r 3), .slice (t.u 0).a (t.u 0).n (t.u 0).c, .slice (t.u 1).a (t.u 1).n (t.u 1).c, .slice (t.u 2).a (t.u 2).n (t.u 2).c, .int .i64 t.ep, .int .i64 t.sg, .int .i64 t.rt, .slice t.o.a t.o.n t.o.c, .int .i64 t.pc, .int .i64 t.x, .int .i64 t.y]), .pointer (some ⟨w.heap.size, 0, none⟩), .pointer (some ⟨w.heap.size + 1, 0, none⟩), .pointer (some ⟨w.heap.size + 2, 0, none⟩), .pointer (some ⟨w.heap.size + 3, 0, none⟩), .pointer (some ⟨w.heap.size + 4, 0, none⟩), .pointer (some ⟨w.heap.size + 5, 0, none⟩), .pointer (some ⟨w.heap.size + 6, 0, none⟩), .bool false, .pointer (some ⟨x.b, 0, none⟩), (.agg #[.slice s.w.a s.w.n s.w.c, .slice s.p.a s.p.n s.p.c, .slice (s.u 0).a (s.u 0).n (s.u 0).c, .slice (s.u 1).a (s.u 1).n (s.u 1).c, .slice (s.u 2).a (s.u 2).n (s.u 2).c, .slice s.c.a s.c.n s.c.c]), (.agg #[.slice x.s.w.a x.s.w.n x.s.w.c, .slice x.s.p.a x.s.p.n x.s.p.c, .slice (x.s.u 0).a (x.s.u 0).n (x.s.u 0).c, .slice (x.s.u 1).a (x.s.u 1).n (x.s.u 1).c, .slice (x.s.u 2).a (x.s.u 2).n (x.s.u 2).c, .slice x.s.c.a x.s.c.n x.s.c.c]), (.agg #[.int .i64 k.ph, .int .i64 k.ep, .bool k.mj, .slice k.wk.a k.wk.n k.wk.c, .bool k.ov, .int .i64 k.pa, .int .i64 k.pf, .int .i64 k.ps, .int .i64 k.pc, .bool k.me]), (.agg #[.int .i64 k.ph, .int .i64 k.ep, .bool k.mj, .slice x.v.a x.v.n x.v.c, .bool k.ov, .int .i64 k.pa, .int .i64 k.pf, .int .i64 k.ps, .int .i64 k.pc, .bool k.me]), (.agg #[.bool t.lv, .int .i64 (t.r 0), .int .i64 (t.r 1), .int .i64 (t.r 2), .int .i64 (t.r 3), .slice (t.u 0).a (t.u 0).n (t.u 0).c, .slice (t.u 1).a (t.u 1).n (t.u 1).c, .slice (t.u 2).a (t.u 2).n (t.u 2).c, .int .i64 t.ep, .int .i64 t.sg, .int .i64 t.rt, .slice t.o.a t.o.n t.o.c, .int .i64 t.pc, .int .i64 t.x, .int .i64 t.y]), (.agg #[.bool t.lv, .int .i64 (t.r 0), .int .i64 (t.r 1), .int .i64 (t.r 2), .int .i64 (t.r 3), .slice (x.u 0).a (x.u 0).n (x.u 0).c, .slice (x.u 1).a (x.u 1).n (x.u 1).c, .slice (x.u 2).a (x.u 2).n (x.u 2).c, .int .i64 t.ep, .int .i64 t.sg, .int .i64 t.rt, .slice x.o.a x.o.n x.o.c, .int .i64 t.pc, .int .i64 t.x, .int .i64 t.y]), .agg (nv (gN x k t)).toArray, undef, undef, undef, undef, undef, undef, undef, undef, undef, undef, undef, undef, undef, undef, undef, undef, undef, undef, undef, undef], defers := [] } := Sh.act_ext (hP.df.trans TD) fun j => by
      match j with
      | 0 => exact (hP.keep (j := 0) (by kernel_rfl)).trans G0
      | 1 => exact (hP.keep (j := 1) (by kernel_rfl)).trans G1
      | 2 => exact (hP.keep (j := 2) (by kernel_rfl)).trans G2
      | 3 => exact (hP.keep (j := 3) (by kernel_rfl)).trans G3
      | 4 => exact (hP.keep (j := 4) (by kernel_rfl)).trans G4
      | 5 => exact (hP.keep (j := 5) (by kernel_rfl)).trans G5
      | 6 => exact (hP.keep (j := 6) (by kernel_rfl)).trans G6
      | 7 => exact (hP.keep (j := 7) (by kernel_rfl)).trans G7
      | 8 => exact (hP.keep (j := 8) (by kernel_rfl)).trans G8
      | 9 => exact (hP.keep (j := 9) (by kernel_rfl)).trans G9
      | 10 => exact (hP.keep (j := 10) (by kernel_rfl)).trans G10
      | 11 => exact hP.got 7 _ 11 rfl (hall 7 (by decide)) rfl
      | 12 => exact hP.got 0 _ 12 rfl (hall 0 (by decide)) rfl
      | 13 => exact hP.got 1 _ 13 rfl (hall 1 (by decide)) rfl
      | 14 => exact hP.got 2 _ 14 rfl (hall 2 (by decide)) rfl
      | 15 => exact hP.got 3 _ 15 rfl (hall 3 (by decide)) rfl
      | 16 => exact hP.got 4 _ 16 rfl (hall 4 (by decide)) rfl
      | 17 => exact hP.got 5 _ 17 rfl (hall 5 (by decide)) rfl
      | 18 => exact hP.got 6 _ 18 rfl (hall 6 (by decide)) rfl
      | 19 => exact (hP.keep (j := 19) (by kernel_rfl)).trans G19
      | 20 => exact (hP.keep (j := 20) (by kernel_rfl)).trans G20
      | 21 => exact (hP.keep (j := 21) (by kernel_rfl)).trans G21
      | 22 => exact (hP.keep (j := 22) (by kernel_rfl)).trans G22
      | 23 => exact (hP.keep (j := 23) (by kernel_rfl)).trans G23
      | 24 => exact (hP.keep (j := 24) (by kernel_rfl)).trans G24
      | 25 => exact (hP.keep (j := 25) (by kernel_rfl)).trans G25
      | 26 => exact (hP.keep (j := 26) (by kernel_rfl)).trans G26
      | 27 => exact (hP.keep (j := 27) (by kernel_rfl)).trans G27
      | 28 => exact (hP.keep (j := 28) (by kernel_rfl)).trans G28
      | 29 => exact (hP.keep (j := 29) (by kernel_rfl)).trans G29
      | 30 => exact (hP.keep (j := 30) (by kernel_rfl)).trans G30
      | 31 => exact (hP.keep (j := 31) (by kernel_rfl)).trans G31
      | 32 => exact (hP.keep (j := 32) (by kernel_rfl)).trans G32
      | 33 => exact (hP.keep (j := 33) (by kernel_rfl)).trans G33
      | 34 => exact (hP.keep (j := 34) (by kernel_rfl)).trans G34
      | 35 => exact (hP.keep (j := 35) (by kernel_rfl)).trans G35
      | 36 => exact (hP.keep (j := 36) (by kernel_rfl)).trans G36
      | 37 => exact (hP.keep (j := 37) (by kernel_rfl)).trans G37
      | 38 => exact (hP.keep (j := 38) (by kernel_rfl)).trans G38
      | j + 39 => exact (Array.getElem?_eq_none (by rw [hP.sz, TZ]; omega)).trans (Array.getElem?_eq_none (show 39 ≤ j + 39 by omega)).symm
    subst ea
    have J2 := Lib.hid hI
    have HO := Lib.hid (hI.hold h6)
    have HX := Lib.hid (show Box W9 x.b (nv (gN x k t)) ∧ w.heap.size + 7 ≤ x.b from ⟨hI.h8 (hall 8 (by decide)), (hI.h7 (hall 7 (by decide))).1⟩)
    obtain ⟨n, hn⟩ : ∃ n, n = gN x k t := ⟨_, rfl⟩
    have hEq : Eqv n (begN s k t o0) := by
      rw [hn]
      obtain ⟨e1, e3, e5⟩ := hI.c6 h6
      have hL := (hI.h1 e1).2.1
      exact ⟨hL.1, hL.2.1, hL.2.2.2, rfl, rfl, (hI.h5 e5).2.1, rfl, rfl, rfl, rfl, rfl⟩
    have hNew : NewN (w.heap.size + 7) n := by
      rw [hn]
      obtain ⟨e1, e3, e5⟩ := hI.c6 h6
      exact ⟨(hI.h1 e1).2.2.1, (hI.h3 e3).2.1, fun j hj _ y hy => (hI.h5 e5).2.2.1.1 j hj y hy, (hI.h5 e5).2.2.1.2⟩
    have hOff : OffN x.b n := by rw [hn]; exact hI.off h6 (hall 7 (by decide))
    have S2 := Lib.hid (show Sq w W9 s k t x.b n d xs F g from ⟨hI.sp, by rw [hn]; exact HX.out.1, HX.out.2, by rw [hn]; exact HO.out, hNew, hOff⟩)
    have E2 := Lib.hid hEq
    rw [← hn]
    obtain ⟨b, hb⟩ : ∃ b, b = x.b := ⟨_, rfl⟩
    obtain ⟨x1, hx1⟩ : ∃ x1, x1 = x.s := ⟨_, rfl⟩
    obtain ⟨x2, hx2⟩ : ∃ x2, x2 = x.v := ⟨_, rfl⟩
    obtain ⟨x3, hx3⟩ : ∃ x3, x3 = x.u := ⟨_, rfl⟩
    obtain ⟨x4, hx4⟩ : ∃ x4, x4 = x.o := ⟨_, rfl⟩
    rw [← hb] at S2 ⊢
    rw [← hx1, ← hx2, ← hx3, ← hx4]
    clear hP hI hall h6 J2 HO HX hn hEq hNew hOff hb hx1 hx2 hx3 hx4 TD TZ G0 G1 G2 G3 G4 G5 G6 G7 G8 G9 G10 G19 G20 G21 G22 G23 G24 G25 G26 G27 G28 G29 G30 G31 G32 G33 G34 G35 G36 G37 G38
    go_upto_region 3 with (first
      | (refine w_load (ldHb S2.out.sp.hb) rfl rfl rfl rfl ?_)
      | (refine w_load (ldTb S2.out.sp.tb) rfl rfl rfl rfl ?_)
      | ((go_at_call 38); (with_reducible refine (C2.out _ S2.out.sp.bel).mono ?_); rintro e9 w3 ⟨rfl, hb9⟩; have S3 := Lib.hid (S2.out.next hb9); clear hb9))
    have hn1 : (0 : Int) < (t.o.n : Int) := by have := HN.out; omega
    have ea := HA.out
    have lo := ldO (b := ob) (off := off) ((HI.out.th.next S3.out.sp.bel).o) HN.out ea
    have ls := ld_ops S3.out.sp.tb (j := 11) (x := t.o) rfl
    rw [ea] at ls
    have sp := stP S3.out.box (g 0)
    have bp := bxP S3.out.box (g 0)
    have S4 : Hid (Sq w (puts b 31 (pv (g 0)) w3) s k t b (atP n (g 0)) d xs F g) := Lib.hid (S3.out.turn bp ⟨S3.out.hold.h, S3.out.hold.c, S3.out.hold.t⟩ ⟨S3.out.nw.h, S3.out.nw.k, S3.out.nw.u, S3.out.nw.o⟩ ⟨S3.out.off.h, S3.out.off.k, S3.out.off.t⟩)
    have E4 : Hid (Eqv (atP n (g 0)) (begN s k t (g 0))) := Lib.hid ⟨E2.out.wn, E2.out.pn, E2.out.cn, E2.out.k, E2.out.t, E2.out.on, rfl, E2.out.q, E2.out.e, E2.out.v, E2.out.b⟩
    clear ea
    go_upto_region 4 with (first
      | (refine w_load ls rfl rfl rfl rfl ?_)
      | (refine w_load lo rfl rfl rfl rfl ?_)
      | (refine w_store sp rfl rfl rfl rfl rfl ?_))
    obtain ⟨W4, hW4⟩ : ∃ W4, W4 = puts b 31 (pv (g 0)) w3 := ⟨_, rfl⟩
    rw [← hW4] at S4 ⊢
    clear hW4 ls lo sp bp hn1
    have P4 := Lib.hid (pre_of HI.out HT.out E4.out S4.out.sp.bel S4.out.hold)
    go_upto_region 5 with (first
      | (refine w_load (ldN S4.out.box) rfl rfl rfl rfl ?_)
      | ((go_at_call 39); (with_reducible refine (HM.out _ _ E4.out P4.out).mono ?_); rintro e9 w5 ⟨n5, rfl, he5, hh5, hi5, hb5⟩; have S5 := Lib.hid (S4.out.next hb5); have E5 := Lib.hid he5; have Z5 := Lib.hid (And.intro hh5 (And.intro (S4.out.nw.inh hi5 S4.out.sp.size) (hi5 b (S4.out.box.lt) S4.out.off))); clear he5 hh5 hi5 hb5)
      | (refine w_store (stN (n' := n5) S5.out.box) rfl rfl rfl rfl rfl ?_))
    have S6 : Hid (Sq w (puts b 0 (nv n5) w5) s k t b n5 P'.d P'.xs P'.F P'.g) := Lib.hid (S5.out.turn (puts_box S5.out.box) Z5.out.1 Z5.out.2.1 Z5.out.2.2)
    obtain ⟨W6, hW6⟩ : ∃ W6, W6 = puts b 0 (nv n5) w5 := ⟨_, rfl⟩
    rw [← hW6] at S6 ⊢
    clear hW6
    have S9 := S6
    have E9 := E5
    refine Sh.region_gen fun a0 ha0 => ?_
    have G11 : a0.tmps[11]? = some (.pointer (some ⟨b, 0, none⟩)) := by rw [ha0]; rfl
    have G6 : a0.tmps[6]? = some (.pointer (some ⟨w.heap.size + 3, 0, none⟩)) := by rw [ha0]; rfl
    have G7 : a0.tmps[7]? = some (.pointer (some ⟨w.heap.size + 4, 0, none⟩)) := by rw [ha0]; rfl
    have G8 : a0.tmps[8]? = some (.pointer (some ⟨w.heap.size + 5, 0, none⟩)) := by rw [ha0]; rfl
    have G9 : a0.tmps[9]? = some (.pointer (some ⟨w.heap.size + 6, 0, none⟩)) := by rw [ha0]; rfl
    have TD : a0.defers = [] := congrArg Act.defers ha0
    have TZ : a0.tmps.size = 39 := by rw [ha0]; rfl
    clear ha0
    refine region_plan (by kernel_rfl) (by kernel_rfl) (by rw [TZ]; kernel_rfl) (fun (_ : Unit) (i : Nat) => (match i with | 0 => Value.pointer (some ⟨b, 0, none⟩) | 1 => (.agg #[.slice n5.s.w.a n5.s.w.n n5.s.w.c, .slice n5.s.p.a n5.s.p.n n5.s.p.c, .slice (n5.s.u 0).a (n5.s.u 0).n (n5.s.u 0).c, .slice (n5.s.u 1).a (n5.s.u 1).n (n5.s.u 1).c, .slice (n5.s.u 2).a (n5.s.u 2).n (n5.s.u 2).c, .slice n5.s.c.a n5.s.c.n n5.s.c.c]) | 2 => Value.pointer (some ⟨b, 6, none⟩) | 3 => (.agg #[.int .i64 n5.k.ph, .int .i64 n5.k.ep, .bool n5.k.mj, .slice n5.k.wk.a n5.k.wk.n n5.k.wk.c, .bool n5.k.ov, .int .i64 n5.k.pa, .int .i64 n5.k.pf, .int .i64 n5.k.ps, .int .i64 n5.k.pc, .bool n5.k.me]) | 4 => Value.pointer (some ⟨b, 16, none⟩) | 5 => (.agg #[.bool n5.t.lv, .int .i64 (n5.t.r 0), .int .i64 (n5.t.r 1), .int .i64 (n5.t.r 2), .int .i64 (n5.t.r 3), .slice (n5.t.u 0).a (n5.t.u 0).n (n5.t.u 0).c, .slice (n5.t.u 1).a (n5.t.u 1).n (n5.t.u 1).c, .slice (n5.t.u 2).a (n5.t.u 2).n (n5.t.u 2).c, .int .i64 n5.t.ep, .int .i64 n5.t.sg, .int .i64 n5.t.rt, .slice n5.t.o.a n5.t.o.n n5.t.o.c, .int .i64 n5.t.pc, .int .i64 n5.t.x, .int .i64 n5.t.y]) | 6 => Value.pointer (some ⟨b, 35, none⟩) | 7 => (.agg #[.int .i64 0, .int .i64 n5.q.k, .int .i64 n5.q.a, .int .i64 n5.q.b, .int .i64 n5.q.c, .int .i64 n5.e, .int .i64 n5.v]) | 8 => Value.pointer (some ⟨b, 42, none⟩) | 9 => Value.bool n5.b | 14 => Value.bool n5.b | _ => undef : Value)) (fun _ l W => R5 w b n5 P'.d P'.xs P'.F P'.g l W) () ?start ?step ?done
    case start => exact r5_start (S9.out.sp.next ⟨rfl, rfl, rfl, Nat.le_refl _, fun _ _ => rfl⟩) (S9.out.box.next ⟨rfl, rfl, rfl, Nat.le_refl _, fun _ _ => rfl⟩) (S9.out.hold.next ⟨rfl, rfl, rfl, Nat.le_refl _, fun _ _ => rfl⟩)
    case step =>
      rintro i o9 l a9 _ W9 ho hP hI hl haft K hK
      have hi : i < 15 := (Array.getElem?_eq_some_iff.1 ho).1
      rcases (show i = 0 ∨ i = 1 ∨ i = 2 ∨ i = 3 ∨ i = 4 ∨ i = 5 ∨ i = 6 ∨ i = 7 ∨ i = 8 ∨ i = 9 ∨ i = 10 ∨ i = 11 ∨ i = 12 ∨ i = 13 ∨ i = 14 by omega) with rfl | rfl | rfl | rfl | rfl | rfl | rfl | rfl | rfl | rfl | rfl | rfl | rfl | rfl | rfl
      · obtain rfl := Option.some.inj ho
        have q11 := (hP.keep (j := 11) (by kernel_rfl)).trans G11
        go_simp
        exact hK () _ (fun _ _ => rfl) (hI.pure (i := 0) (by decide))
      · obtain rfl := Option.some.inj ho
        have e9 := hP.got 0 _ 29 rfl (haft ⟨0, .data⟩ (by simp) rfl) rfl
        try dsimp only at e9
        exact p_load rfl (ev e9) (ldH hI.box) (hK () _ (fun _ _ => rfl) (hI.pure (i := 1) (by decide)))
      · obtain rfl := Option.some.inj ho
        have q11 := (hP.keep (j := 11) (by kernel_rfl)).trans G11
        go_simp
        exact hK () _ (fun _ _ => rfl) (hI.pure (i := 2) (by decide))
      · obtain rfl := Option.some.inj ho
        have e9 := hP.got 2 _ 31 rfl (haft ⟨2, .data⟩ (by simp) rfl) rfl
        try dsimp only at e9
        exact p_load rfl (ev e9) (ldK hI.box) (hK () _ (fun _ _ => rfl) (hI.pure (i := 3) (by decide)))
      · obtain rfl := Option.some.inj ho
        have q11 := (hP.keep (j := 11) (by kernel_rfl)).trans G11
        go_simp
        exact hK () _ (fun _ _ => rfl) (hI.pure (i := 4) (by decide))
      · obtain rfl := Option.some.inj ho
        have e9 := hP.got 4 _ 33 rfl (haft ⟨4, .data⟩ (by simp) rfl) rfl
        try dsimp only at e9
        exact p_load rfl (ev e9) (ldT hI.box) (hK () _ (fun _ _ => rfl) (hI.pure (i := 5) (by decide)))
      · obtain rfl := Option.some.inj ho
        have q11 := (hP.keep (j := 11) (by kernel_rfl)).trans G11
        go_simp
        exact hK () _ (fun _ _ => rfl) (hI.pure (i := 6) (by decide))
      · obtain rfl := Option.some.inj ho
        have e9 := hP.got 6 _ 35 rfl (haft ⟨6, .data⟩ (by simp) rfl) rfl
        try dsimp only at e9
        exact p_load rfl (ev e9) (ldQ hI.box) (hK () _ (fun _ _ => rfl) (hI.pure (i := 7) (by decide)))
      · obtain rfl := Option.some.inj ho
        have q11 := (hP.keep (j := 11) (by kernel_rfl)).trans G11
        go_simp
        exact hK () _ (fun _ _ => rfl) (hI.pure (i := 8) (by decide))
      · obtain rfl := Option.some.inj ho
        have e9 := hP.got 8 _ 37 rfl (haft ⟨8, .data⟩ (by simp) rfl) rfl
        try dsimp only at e9
        exact p_load rfl (ev e9) (ldB hI.box) (hK () _ (fun _ _ => rfl) (hI.pure (i := 9) (by decide)))
      · obtain rfl := Option.some.inj ho
        have e9 := hP.got 1 _ 30 rfl (haft ⟨1, .data⟩ (by simp) rfl) rfl
        try dsimp only at e9
        have q9 := (hP.keep (j := 6) (by kernel_rfl)).trans G6
        have hs : (Instr.storeAt 28 (.pointer (some ⟨w.heap.size + 3, 0, none⟩)) (.agg (hv n5.s).toArray)).run Tryz.prog W9 = .ok () (puts (w.heap.size + 3) 0 (hv n5.s) W9) := st hI.rh (o := 0) (by rw [sel_len (x := hv n5.s) (y := hv noHs0) rfl]; exact Nat.le_of_eq (Nat.zero_add _)) _ infH (by kernel_rfl)
        exact p_store rfl (ev q9) (ev e9) hs (hK () _ (fun _ _ => rfl) (hI.put S9.out.nw S9.out.lo (i := 10) (by decide) (by decide) ⟨fun _ => rfl, (fun h => by cases h), (fun h => by cases h), (fun h => by cases h)⟩))
      · obtain rfl := Option.some.inj ho
        have e9 := hP.got 3 _ 32 rfl (haft ⟨3, .data⟩ (by simp) rfl) rfl
        try dsimp only at e9
        have q9 := (hP.keep (j := 7) (by kernel_rfl)).trans G7
        have hs : (Instr.storeAt 30 (.pointer (some ⟨w.heap.size + 4, 0, none⟩)) (.agg (kv n5.k).toArray)).run Tryz.prog W9 = .ok () (puts (w.heap.size + 4) 0 (kv n5.k) W9) := st hI.rk (o := 0) (by rw [sel_len (x := kv n5.k) (y := kv noK0) rfl]; exact Nat.le_of_eq (Nat.zero_add _)) _ infK (by kernel_rfl)
        exact p_store rfl (ev q9) (ev e9) hs (hK () _ (fun _ _ => rfl) (hI.put S9.out.nw S9.out.lo (i := 11) (by decide) (by decide) ⟨(fun h => by cases h), fun _ => rfl, (fun h => by cases h), (fun h => by cases h)⟩))
      · obtain rfl := Option.some.inj ho
        have e9 := hP.got 5 _ 34 rfl (haft ⟨5, .data⟩ (by simp) rfl) rfl
        try dsimp only at e9
        have q9 := (hP.keep (j := 8) (by kernel_rfl)).trans G8
        have hs : (Instr.storeAt 34 (.pointer (some ⟨w.heap.size + 5, 0, none⟩)) (.agg (tv n5.t).toArray)).run Tryz.prog W9 = .ok () (puts (w.heap.size + 5) 0 (tv n5.t) W9) := st hI.rt (o := 0) (by rw [sel_len (x := tv n5.t) (y := tv noT) rfl]; exact Nat.le_of_eq (Nat.zero_add _)) _ infT (by kernel_rfl)
        exact p_store rfl (ev q9) (ev e9) hs (hK () _ (fun _ _ => rfl) (hI.put S9.out.nw S9.out.lo (i := 12) (by decide) (by decide) ⟨(fun h => by cases h), (fun h => by cases h), fun _ => rfl, (fun h => by cases h)⟩))
      · obtain rfl := Option.some.inj ho
        have e9 := hP.got 7 _ 36 rfl (haft ⟨7, .data⟩ (by simp) rfl) rfl
        try dsimp only at e9
        have q9 := (hP.keep (j := 9) (by kernel_rfl)).trans G9
        have hs : (Instr.storeAt 42 (.pointer (some ⟨w.heap.size + 6, 0, none⟩)) (.agg (qv n5.q n5.e n5.v).toArray)).run Tryz.prog W9 = .ok () (puts (w.heap.size + 6) 0 (qv n5.q n5.e n5.v) W9) := st hI.rr (o := 0) (by rw [sel_len (x := qv n5.q n5.e n5.v) (y := qv o0 0 0) rfl]; exact Nat.le_of_eq (Nat.zero_add _)) _ infQ (by kernel_rfl)
        exact p_store rfl (ev q9) (ev e9) hs (hK () _ (fun _ _ => rfl) (hI.put S9.out.nw S9.out.lo (i := 13) (by decide) (by decide) ⟨(fun h => by cases h), (fun h => by cases h), (fun h => by cases h), fun _ => rfl⟩))
      · obtain rfl := Option.some.inj ho
        have e9 := hP.got 9 _ 38 rfl (haft ⟨9, .data⟩ (by simp) rfl) rfl
        try dsimp only at e9
        go_simp
        exact hK () _ (fun _ _ => rfl) (hI.pure (i := 14) (by decide))
    case done =>
      rintro l a9 _ W9 hP hI hall
      have t6 := (hP.keep (j := 6) (by kernel_rfl)).trans G6
      have t7 := (hP.keep (j := 7) (by kernel_rfl)).trans G7
      have t8 := (hP.keep (j := 8) (by kernel_rfl)).trans G8
      have t9 := (hP.keep (j := 9) (by kernel_rfl)).trans G9
      have t10 := hP.got 14 _ 10 rfl (hall 14 (by decide)) rfl
      have td := hP.df.trans TD
      have xh := hI.rh
      have xk := hI.rk
      have xt := hI.rt
      have xr := hI.rr
      rw [hall 10 (by decide)] at xh
      rw [hall 11 (by decide)] at xk
      rw [hall 12 (by decide)] at xt
      rw [hall 13 (by decide)] at xr
      have Z9 := Lib.hid (And.intro hI.hold hI.bel)
      have Y9 := Lib.hid (And.intro xh (And.intro xk (And.intro xt xr)))
      clear hP hI hall xh xk xt xr
      go_wp2
      exact bodyPost_ret (res_step t6 t7 t8 t9 t10 Y9.out.1 Y9.out.2.1 Y9.out.2.2.1 Y9.out.2.2.2) td ⟨n5, rfl, E9.out, Z9.out.1, S9.out.nw.less (by omega), Z9.out.2⟩
end
end Go.Proofs.YtfjhhfncapmnmaaGreatDoor.Mu
