/-
  Merged texts: FrAny, ShRow, ShCol, MuSt.
-/
import Derived.Test.YtfjhhfncapmnmaaGreatDoorHpRG
import Derived.Deep.Upon
import Derived.Test.YtfjhhfncapmnmaaGreatDoorRRtPut
section
namespace Go.Proofs.YtfjhhfncapmnmaaGreatDoor
open Go.RowKit
set_option maxRecDepth 100000

theorem list_nothing {w : World} {ops : Array Oper} {rest : List Oper} {o : Oper} {a : Act} {Q : Exit → Act → World → Prop} {T E : TypeId} {i0 : TypeInfo} (hu : Tryz.prog.underlying T = some (.slice E)) (hi : Tryz.prog.info? E = some i0) (hgd : o.guard = none) (s x : Operand)
    (ho : o.op = .call { callee := .builtin .append, args := #[s, x], argTypes := #[T, T] }) {p : Option Addr} {m c : Nat} {v : Value}
    (hs : a.eval s = .slice p m c) (hx : a.eval x = v) (hle : m ≤ c) (hsrc : Src Tryz.prog i0.size T v 0 [] w)
    (hK : wpList Tryz.prog ops Q rest (a.put o.dst (.slice p m c)) w) : wpList Tryz.prog ops Q (o :: rest) a w :=
  wpList_plain hgd fun _ hK' => by
    have hrun := run_append_nothing (P := Tryz.prog) w T T o.type E i0 hu hi p m c hle v hsrc
    unfold Oper.wp execOp
    simp only [ho, resolve, invoke, builtin, Sem.run_bind, Sem.run_pure, Result.andThen_ok, List.map_toArray, List.map_cons, List.map_nil, hs, hx, hrun]
    exact hK' _ _ hK
/-- Pages that were cloned, none too. -/
def PClo (w : World) (n : Nat) (f : Nat → Int × Int) (e : Ending) (w' : World) : Prop :=
  ∃ (v : Ls.Sl), v.n = n ∧ e = .returned (.slice v.a n v.c) ∧ Cl.PRow w' w'.heap.size v.a n f ∧ New w.heap.size v ∧ Below w.heap.size w w'
def BClo (w : World) (n : Nat) (f : Nat → Bool) (e : Ending) (w' : World) : Prop :=
  ∃ (v : Ls.Sl), v.n = n ∧ e = .returned (.slice v.a n v.c) ∧ BRow w' w'.heap.size v.a n f ∧ New w.heap.size v ∧ Below w.heap.size w w'
theorem pclone_none (A : Option Addr) (c : Nat) (f : Nat → Int × Int) (w : World) : Calls Tryz.prog 71 #[.slice A 0 c] w (PClo w 0 f) := by
  obtain ⟨i0, hi, hz0, hz1, hz2⟩ := info_parts Cl.info_page
  have q22 : ∀ (w : World) (a : Option Addr) (n c n' c' : Nat), (binOp .eql 23 (.slice a n c) (.slice none n' c')).run Tryz.prog w = .ok (.bool a.isNone) w := fun w a n c n' c' => Lib.run_eql_slice_nil w _ _ a n c n' c' Tryz.underlying23
  cases A with
  | none =>
    go_enter Tryz.func71, Tryz.ntmps71
    go_wp2
    go_ret
    exact ⟨⟨none, 0, 0⟩, rfl, rfl, fun h => absurd h (Nat.lt_irrefl 0), fun h => absurd h (Nat.lt_irrefl 0), Below.refl _ _⟩
  | some x =>
    have hsrc : ∀ w, Src Tryz.prog i0.size 23 (.slice (some x) 0 c) 0 [] w := fun w => by
      rw [hz1]
      exact Src.ofSlice _ Tryz.underlying23 x 0 c [] rfl (by simp) (by simp)
    go_enter Tryz.func71, Tryz.ntmps71
    go_wp2_with (at_builtin; refine list_nothing Tryz.underlying23 hi rfl _ _ rfl rfl rfl (Nat.zero_le _) (hsrc _) ?_)
    go_wp2
    go_ret
    exact ⟨⟨some ⟨w.heap.size, 0, none⟩, 0, 0⟩, rfl, rfl, fun h => absurd h (Nat.lt_irrefl 0), fun h => absurd h (Nat.lt_irrefl 0), (Below.refl _ _).alloc (Nat.le_refl _) _⟩
theorem bclone_none (A : Option Addr) (c : Nat) (f : Nat → Bool) (w : World) : Calls Tryz.prog 73 #[.slice A 0 c] w (BClo w 0 f) := by
  obtain ⟨i0, hi, hz0, hz1, hz2⟩ := info_parts info_boolC
  have q22 : ∀ (w : World) (a : Option Addr) (n c n' c' : Nat), (binOp .eql 26 (.slice a n c) (.slice none n' c')).run Tryz.prog w = .ok (.bool a.isNone) w := fun w a n c n' c' => Lib.run_eql_slice_nil w _ _ a n c n' c' Tryz.underlying26
  cases A with
  | none =>
    go_enter Tryz.func73, Tryz.ntmps73
    go_wp2
    go_ret
    exact ⟨⟨none, 0, 0⟩, rfl, rfl, fun h => absurd h (Nat.lt_irrefl 0), fun h => absurd h (Nat.lt_irrefl 0), Below.refl _ _⟩
  | some x =>
    have hsrc : ∀ w, Src Tryz.prog i0.size 26 (.slice (some x) 0 c) 0 [] w := fun w => by
      rw [hz1]
      exact Src.ofSlice _ Tryz.underlying26 x 0 c [] rfl (by simp) (by simp)
    go_enter Tryz.func73, Tryz.ntmps73
    go_wp2_with (at_builtin; refine list_nothing Tryz.underlying26 hi rfl _ _ rfl rfl rfl (Nat.zero_le _) (hsrc _) ?_)
    go_wp2
    go_ret
    exact ⟨⟨some ⟨w.heap.size, 0, none⟩, 0, 0⟩, rfl, rfl, fun h => absurd h (Nat.lt_irrefl 0), fun h => absurd h (Nat.lt_irrefl 0), (Below.refl _ _).alloc (Nat.le_refl _) _⟩
theorem pclone_any (B : Nat) (A : Option Addr) (n c : Nat) (f : Nat → Int × Int) (w : World) (hbig : n ≤ 1000) (hr : Cl.PRow w B A n f) : Calls Tryz.prog 71 #[.slice A n c] w (PClo w n f) := by
  by_cases hn : n = 0
  · subst hn
    exact pclone_none A c f w
  · exact (Cl.pclone_ok B A n c f w (by omega) hbig hr).mono fun e w' ⟨g, c', he, hm, hb⟩ => ⟨⟨some ⟨g, 0, none⟩, n, c'⟩, rfl, he, hm.row, fun _ x hx => by cases hx; exact hm.2.1, hb⟩
theorem bclone_any (B : Nat) (A : Option Addr) (n c : Nat) (f : Nat → Bool) (w : World) (hbig : n ≤ 1000000) (hr : BRow w B A n f) : Calls Tryz.prog 73 #[.slice A n c] w (BClo w n f) := by
  by_cases hn : n = 0
  · subst hn
    exact bclone_none A c f w
  · exact (bclone_ok B A n c f w (by omega) hbig hr).mono fun e w' ⟨g, c', he, hm, _, hg, hl, hb⟩ => ⟨⟨some ⟨g, 0, none⟩, n, c'⟩, rfl, he, fun _ => ⟨g, 0, rfl, hl, fun i hi => by rw [Nat.zero_add]; exact hm i hi⟩, fun _ x hx => by cases hx; exact hg, hb⟩
/-- A copy was returned. -/
def FreshW (w : World) (s : Hs) (d : Hd_) (e : Ending) (w' : World) : Prop :=
  ∃ t : Hs, e = .returned (.agg #[.slice t.w.a t.w.n t.w.c, .slice t.p.a t.p.n t.p.c, .slice (t.u 0).a (t.u 0).n (t.u 0).c, .slice (t.u 1).a (t.u 1).n (t.u 1).c, .slice (t.u 2).a (t.u 2).n (t.u 2).c, .slice t.c.a t.c.n t.c.c]) ∧ Hp w' w'.heap.size t d ∧ Lens s t ∧ News w.heap.size t ∧ Below w.heap.size w w'
section
variable {w W W' : World} {s : Hs} {d : Hd_}
def PgW (w W : World) (v : Ls.Sl) (n : Nat) (f : Nat → Int × Int) : Prop := v.n = n ∧ Cl.PRow W W.heap.size v.a n f ∧ New (w.heap.size + 2) v
theorem PgW.next {v : Ls.Sl} {n : Nat} {f : Nat → Int × Int} (h : PgW w W v n f) (hb : Below W.heap.size W W') : PgW w W' v n f := ⟨h.1, prow_more (h.2.1.below hb) hb.size, h.2.2⟩
theorem pgw_of {v : Ls.Sl} {n : Nat} {f : Nat → Int × Int} (h : Fr w W s) (hn : v.n = n) (hr : Cl.PRow W' W'.heap.size v.a n f) (hw : New W.heap.size v) : PgW w W' v n f :=
  ⟨hn, hr, fun h0 x hx => by have := hw h0 x hx; have := h.lt; omega⟩
theorem freshw_end {v p c : Ls.Sl} {vu : Nat → Ls.Sl} (v0 v1 v2 v3 v4 v5 : Value) (hl : Hid (Lens s s ∧ s.w.n = d.ws.length ∧ ∀ j, j < 3 → (s.u j).n = (d.F j).length)) (hF : Fr w W s) (hr : RowN w W v d.ws) (hp : PgW w W p s.p.n d.f) (hu : LsN w W vu d.F) (hc : BRow W W.heap.size c.a s.c.n d.cs) (hcn : c.n = s.c.n) (hcw : New (w.heap.size + 2) c) :
    FreshW w s d (.returned (.agg #[.slice v.a v.n v.c, .slice p.a s.p.n p.c, .slice (vu 0).a (vu 0).n (vu 0).c, .slice (vu 1).a (vu 1).n (vu 1).c, .slice (vu 2).a (vu 2).n (vu 2).c, .slice c.a s.c.n c.c])) (put6 W (w.heap.size + 1) v0 v1 v2 v3 v4 v5) := by
  obtain ⟨e1, hp1, hp2⟩ := hp
  have hn : News (w.heap.size + 2) ⟨v, p, vu, c⟩ := ⟨hr.2.2.2, hp2, hu.2, hcw⟩
  have hW : Hp W W.heap.size ⟨v, p, vu, c⟩ d := ⟨hr.1, by rw [e1]; exact hp1, hu.1, by rw [hcn]; exact hc⟩
  refine ⟨⟨v, p, vu, c⟩, by rw [e1, hcn], hn.kept hW (fun k h1 _ => put6_other _ _ _ _ _ _ _ _ (by omega)) (by rw [put6_size]; exact Nat.le_refl _), ⟨?_, e1, fun j hj => ?_, hcn⟩, ⟨fun h0 x hx => by have := hn.w h0 x hx; omega, fun h0 x hx => by have := hn.p h0 x hx; omega, fun j hj h0 x hx => by have := hn.u j hj h0 x hx; omega, fun h0 x hx => by have := hn.c h0 x hx; omega⟩, below_put6 hF.bel (by omega) _ _ _ _ _ _⟩
  · have h1 := hr.1.1
    have h2 := hl.out.2.1
    show v.n = _
    omega
  · have h1 := hu.1.len j hj
    have h2 := hl.out.2.2 j hj
    show (vu j).n = _
    omega
end
set_option maxHeartbeats 4000000 in
theorem fresh_all (s : Hs) (d : Hd_) (w : World) (hp : Hp w w.heap.size s d) (hf : Fine s d) : Calls Tryz.prog 35 #[(.agg #[.slice s.w.a s.w.n s.w.c, .slice s.p.a s.p.n s.p.c, .slice (s.u 0).a (s.u 0).n (s.u 0).c, .slice (s.u 1).a (s.u 1).n (s.u 1).c, .slice (s.u 2).a (s.u 2).n (s.u 2).c, .slice s.c.a s.c.n s.c.c])] w (FreshW w s d) := by
  have hun : ∀ j, j < 3 → (s.u j).n ≤ 2000000 := fun j hj => by
    have h1 := hf.len
    rw [show (Ls.upTo d.F 3).length = (d.F 0).length + (d.F 1).length + (d.F 2).length by simp [Ls.upTo, List.range_succ]; omega] at h1
    have h2 := hp.free.len j hj
    rcases (show j = 0 ∨ j = 1 ∨ j = 2 by omega) with rfl | rfl | rfl <;> omega
  have C1 := Lib.hid (fun W (h : Below w.heap.size w W) => iclone_any w.heap.size s.w.a s.w.n s.w.c d.ws W (by have := hf.wn; omega) h.size (hp.words.below h))
  have C2 := Lib.hid (fun W (h : Below w.heap.size w W) => pclone_any w.heap.size s.p.a s.p.n s.p.c d.f W (by have := hf.pn; omega) (hp.pages.below h))
  have C3 := Lib.hid (fun W (h : Below w.heap.size w W) => Ls.aown_any w.heap.size s.u d.F W (hp.free.below h) h.size hun)
  have C4 := Lib.hid (fun W (h : Below w.heap.size w W) => bclone_any w.heap.size s.c.a s.c.n s.c.c d.cs W (by have := hf.cn; omega) (hp.cards.below h))
  have HL : Hid (Lens s s ∧ s.w.n = d.ws.length ∧ ∀ j, j < 3 → (s.u j).n = (d.F j).length) := Lib.hid ⟨⟨rfl, rfl, fun _ _ => rfl, rfl⟩, hp.words.1.symm, hp.free.len⟩
  clear hp hf hun
  go_enter Tryz.func35, Tryz.ntmps35
  go_wp2_with fail
  obtain ⟨W0, hW0⟩ : ∃ W0, W0 = (w.alloc (.cells #[.slice s.w.a s.w.n s.w.c, .slice s.p.a s.p.n s.p.c, .slice (s.u 0).a (s.u 0).n (s.u 0).c, .slice (s.u 1).a (s.u 1).n (s.u 1).c, .slice (s.u 2).a (s.u 2).n (s.u 2).c, .slice s.c.a s.c.n s.c.c] 28)).alloc (.cells #[.slice none 0 0, .slice none 0 0, .slice none 0 0, .slice none 0 0, .slice none 0 0, .slice none 0 0] 28) := ⟨_, rfl⟩
  have K0 := Lib.hid (And.intro (fr_start hW0) True.intro)
  rw [← hW0]
  clear hW0
  go_region_held3 (fun W => (Fr w W s ∧ True) ∧ w.heap.size < W.heap.size ∧ W.cell? ⟨w.heap.size, 0, none⟩ = some (.slice s.w.a s.w.n s.w.c) ∧ W.cell? ⟨w.heap.size, 1, none⟩ = some (.slice s.p.a s.p.n s.p.c) ∧ W.cell? ⟨w.heap.size, 2, none⟩ = some (.slice (s.u 0).a (s.u 0).n (s.u 0).c) ∧ W.cell? ⟨w.heap.size, 3, none⟩ = some (.slice (s.u 1).a (s.u 1).n (s.u 1).c) ∧ W.cell? ⟨w.heap.size, 4, none⟩ = some (.slice (s.u 2).a (s.u 2).n (s.u 2).c) ∧ W.cell? ⟨w.heap.size, 5, none⟩ = some (.slice s.c.a s.c.n s.c.c)) (first
    | with_reducible exact fr_put (‹(Fr w _ s ∧ _) ∧ _›).1 _ _ _ _ _ _
    | with_reducible exact fr_keep (‹(Fr w _ s ∧ _) ∧ _›).1 ‹Below _ _ _›
    | with_reducible exact fr_keep K0.out (Below.refl _ _)
    | exact fr_keep K0.out (below_drawn' (Below.refl _ _) 1)) (first
    | ((go_at_call 70; refine (C1.out _ (‹(Fr w _ s ∧ _) ∧ _›).1.1.bel).mono ?_; rintro e w5 ⟨v5, rfl, ho5, hb5⟩; have R5 := Lib.hid (rown_of (‹(Fr w _ s ∧ _) ∧ _›).1.1 ho5); clear ho5))
    | ((go_at_call 71; refine (C2.out _ (‹(Fr w _ s ∧ _) ∧ _›).1.1.bel).mono ?_; rintro e w6 ⟨v6, hn6, rfl, hm6, hg6, hb6⟩; have R6 := Lib.hid (And.intro (R5.out.next hb6) (pgw_of (‹(Fr w _ s ∧ _) ∧ _›).1.1 hn6 hm6 hg6)); clear hn6 hm6 hg6))
    | ((go_at_call 72; refine (C3.out _ (‹(Fr w _ s ∧ _) ∧ _›).1.1.bel).mono ?_; rintro e w7 ⟨v7, rfl, ho7, hb7⟩; have R7 := Lib.hid (And.intro (R6.out.1.next hb7) (And.intro (R6.out.2.next hb7) (lsn_of (‹(Fr w _ s ∧ _) ∧ _›).1.1 ho7))); clear ho7))
    | ((go_at_call 73; refine (C4.out _ (‹(Fr w _ s ∧ _) ∧ _›).1.1.bel).mono ?_; rintro e w8 ⟨v8, hn8, rfl, hm8, hg8, hb8⟩; have F8 := Lib.hid ((‹(Fr w _ s ∧ _) ∧ _›).1.1.next hb8); have R8 := Lib.hid (And.intro (R7.out.1.next hb8) (And.intro (R7.out.2.1.next hb8) (And.intro (R7.out.2.2.next hb8) (And.intro hm8 (And.intro hn8 (show New (w.heap.size + 2) v8 from fun h0 x hx => by have h1 := hg8 h0 x hx; have h2 := (‹(Fr w w7 s ∧ _) ∧ _›).1.1.lt; omega)))))); obtain ⟨x0, h0⟩ := F8.out.res 0 (by decide); obtain ⟨x1, h1⟩ := F8.out.res 1 (by decide); obtain ⟨x2, h2⟩ := F8.out.res 2 (by decide); obtain ⟨x3, h3⟩ := F8.out.res 3 (by decide); obtain ⟨x4, h4⟩ := F8.out.res 4 (by decide); obtain ⟨x5, h5⟩ := F8.out.res 5 (by decide); have y0 := F8.out.free 0; have y1 := F8.out.free 1; have y2 := F8.out.free 2; have y3 := F8.out.free 3; have y4 := F8.out.free 4; have y5 := F8.out.free 5; have yl := F8.out.lt; clear hn8 hm8 hg8)))
  go_wp2
  refine bodyPost_ret (v := .agg #[.slice v5.a v5.n v5.c, .slice v6.a s.p.n v6.c, .slice (v7 0).a (v7 0).n (v7 0).c, .slice (v7 1).a (v7 1).n (v7 1).c, .slice (v7 2).a (v7 2).n (v7 2).c, .slice v8.a s.c.n v8.c]) ?_ rfl (freshw_end _ _ _ _ _ _ HL F8.out R8.out.1 R8.out.2.1 R8.out.2.2.1 R8.out.2.2.2.1 R8.out.2.2.2.2.1 R8.out.2.2.2.2.2)
  obtain ⟨k0, k1, k2, k3, k4, k5⟩ := put6_ex F8.out (.slice v5.a v5.n v5.c) (.slice v6.a s.p.n v6.c) (.slice (v7 0).a (v7 0).n (v7 0).c) (.slice (v7 1).a (v7 1).n (v7 1).c) (.slice (v7 2).a (v7 2).n (v7 2).c) (.slice v8.a s.c.n v8.c)
  exact res_fresh rfl k0 k1 k2 k3 k4 k5
end Go.Proofs.YtfjhhfncapmnmaaGreatDoor
end
section
namespace Go.Proofs.YtfjhhfncapmnmaaGreatDoor.Sh
open Go.Proofs.YtfjhhfncapmnmaaGreatDoor
open Go.RowKit
set_option maxRecDepth 100000

structure CBox (W : World) (b : Nat) (k : Ks) : Prop where
  c0 : W.cell? ⟨b, 0, none⟩ = some (.int .i64 k.ph)
  c1 : W.cell? ⟨b, 1, none⟩ = some (.int .i64 k.ep)
  c2 : W.cell? ⟨b, 2, none⟩ = some (.bool k.mj)
  c3 : W.cell? ⟨b, 3, none⟩ = some (.slice k.wk.a k.wk.n k.wk.c)
  c4 : W.cell? ⟨b, 4, none⟩ = some (.bool k.ov)
  c5 : W.cell? ⟨b, 5, none⟩ = some (.int .i64 k.pa)
  c6 : W.cell? ⟨b, 6, none⟩ = some (.int .i64 k.pf)
  c7 : W.cell? ⟨b, 7, none⟩ = some (.int .i64 k.ps)
  c8 : W.cell? ⟨b, 8, none⟩ = some (.int .i64 k.pc)
  c9 : W.cell? ⟨b, 9, none⟩ = some (.bool k.me)
  lt : b < W.heap.size
theorem CBox.new (w : World) (k : Ks) (t : TypeId) : CBox (w.alloc (.cells #[.int .i64 k.ph, .int .i64 k.ep, .bool k.mj, .slice k.wk.a k.wk.n k.wk.c, .bool k.ov, .int .i64 k.pa, .int .i64 k.pf, .int .i64 k.ps, .int .i64 k.pc, .bool k.me] t)) w.heap.size k := by
  refine ⟨?_, ?_, ?_, ?_, ?_, ?_, ?_, ?_, ?_, ?_, by simp⟩ <;> simp [go_sem]
theorem CBox.next {W W' : World} {b : Nat} {k : Ks} (h : CBox W b k) (hb : Below W.heap.size W W') : CBox W' b k :=
  ⟨(hb.cell (p := ⟨b, 0, none⟩) h.lt).trans h.c0, (hb.cell (p := ⟨b, 1, none⟩) h.lt).trans h.c1, (hb.cell (p := ⟨b, 2, none⟩) h.lt).trans h.c2, (hb.cell (p := ⟨b, 3, none⟩) h.lt).trans h.c3, (hb.cell (p := ⟨b, 4, none⟩) h.lt).trans h.c4, (hb.cell (p := ⟨b, 5, none⟩) h.lt).trans h.c5, (hb.cell (p := ⟨b, 6, none⟩) h.lt).trans h.c6, (hb.cell (p := ⟨b, 7, none⟩) h.lt).trans h.c7, (hb.cell (p := ⟨b, 8, none⟩) h.lt).trans h.c8, (hb.cell (p := ⟨b, 9, none⟩) h.lt).trans h.c9, Nat.lt_of_lt_of_le h.lt hb.size⟩
/-- All but the work list, and whether that has no more room. -/
def SameK (k k' : Ks) : Prop := k'.ph = k.ph ∧ k'.ep = k.ep ∧ k'.mj = k.mj ∧ k'.pa = k.pa ∧ k'.pf = k.pf ∧ k'.ps = k.ps ∧ k'.pc = k.pc ∧ k'.me = k.me
theorem SameK.refl (k : Ks) : SameK k k := ⟨rfl, rfl, rfl, rfl, rfl, rfl, rfl, rfl⟩
theorem SameK.trans {k k' k2 : Ks} (h : SameK k k') (g : SameK k' k2) : SameK k k2 := by
  obtain ⟨h1, h2, h3, h4, h5, h6, h7, h8⟩ := h
  obtain ⟨g1, g2, g3, g4, g5, g6, g7, g8⟩ := g
  exact ⟨g1.trans h1, g2.trans h2, g3.trans h3, g4.trans h4, g5.trans h5, g6.trans h6, g7.trans h7, g8.trans h8⟩
/-- A collector's work list. -/
def WRow (w : World) (B : Nat) (k : Ks) (xs : List Int) : Prop := Row w B k.wk.a k.wk.n xs
/-- What a walk holds: heaps in boxes, collectors in boxes. -/
structure Lk (w W : World) (hs : List (Nat × Hs × Hd_)) (ks : List (Nat × Ks × List Int)) : Prop where
  bel : Below w.heap.size w W
  h : ∀ x ∈ hs, HBox W x.1 x.2.1 ∧ Hp W W.heap.size x.2.1 x.2.2
  k : ∀ x ∈ ks, CBox W x.1 x.2.1 ∧ WRow W W.heap.size x.2.1 x.2.2
section
variable {w w3 W W' : World} {s t : Hs} {d d' : Hd_} {k k' : Ks} {xs ys : List Int} {hs : List (Nat × Hs × Hd_)} {ks : List (Nat × Ks × List Int)} {ty ty' : TypeId} {b c : Nat}
theorem WRow.next (h : WRow W W.heap.size k xs) (hb : Below W.heap.size W W') : WRow W' W'.heap.size k xs := (Row.below h hb).more hb.size
theorem WRow.len (h : WRow W c k xs) : k.wk.n = xs.length := h.1.symm
theorem Lk.next (h : Lk w W hs ks) (hb : Below W.heap.size W W') : Lk w W' hs ks := ⟨h.bel.trans (hb.mono h.bel.size), fun x hx => ⟨(h.h x hx).1.next hb, (h.h x hx).2.next hb⟩, fun x hx => ⟨(h.k x hx).1.next hb, (h.k x hx).2.next hb⟩⟩
theorem Lk.at (h : Lk w W hs ks) (b : Nat) (s : Hs) (d : Hd_) (hm : (b, s, d) ∈ hs) : HBox W b s := (h.h _ hm).1
theorem Lk.hp (h : Lk w W hs ks) (b : Nat) (s : Hs) (d : Hd_) (hm : (b, s, d) ∈ hs) : Hp W W.heap.size s d := (h.h _ hm).2
theorem Lk.cat (h : Lk w W hs ks) (b : Nat) (k : Ks) (xs : List Int) (hm : (b, k, xs) ∈ ks) : CBox W b k := (h.k _ hm).1
theorem Lk.wr (h : Lk w W hs ks) (b : Nat) (k : Ks) (xs : List Int) (hm : (b, k, xs) ∈ ks) : WRow W W.heap.size k xs := (h.k _ hm).2
theorem lk_start (hp : Hp w w.heap.size s d) (hk : WRow w w.heap.size k xs) (h : W = (w.alloc (.cells #[.slice s.w.a s.w.n s.w.c, .slice s.p.a s.p.n s.p.c, .slice (s.u 0).a (s.u 0).n (s.u 0).c, .slice (s.u 1).a (s.u 1).n (s.u 1).c, .slice (s.u 2).a (s.u 2).n (s.u 2).c, .slice s.c.a s.c.n s.c.c] ty)).alloc (.cells #[.int .i64 k.ph, .int .i64 k.ep, .bool k.mj, .slice k.wk.a k.wk.n k.wk.c, .bool k.ov, .int .i64 k.pa, .int .i64 k.pf, .int .i64 k.ps, .int .i64 k.pc, .bool k.me] ty')) : Lk w W [(w.heap.size, s, d)] [(w.heap.size + 1, k, xs)] := by
  have b1 : Below w.heap.size w W := by rw [h]; exact ((Below.refl _ _).alloc (Nat.le_refl _) _).alloc (by simp) _
  have b2 : Below (w.alloc (.cells #[.slice s.w.a s.w.n s.w.c, .slice s.p.a s.p.n s.p.c, .slice (s.u 0).a (s.u 0).n (s.u 0).c, .slice (s.u 1).a (s.u 1).n (s.u 1).c, .slice (s.u 2).a (s.u 2).n (s.u 2).c, .slice s.c.a s.c.n s.c.c] ty)).heap.size (w.alloc (.cells #[.slice s.w.a s.w.n s.w.c, .slice s.p.a s.p.n s.p.c, .slice (s.u 0).a (s.u 0).n (s.u 0).c, .slice (s.u 1).a (s.u 1).n (s.u 1).c, .slice (s.u 2).a (s.u 2).n (s.u 2).c, .slice s.c.a s.c.n s.c.c] ty)) W := by rw [h]; exact (Below.refl _ _).alloc (Nat.le_refl _) _
  refine ⟨b1, fun x hx => ?_, fun x hx => ?_⟩
  · obtain rfl := List.mem_singleton.1 hx
    exact ⟨(HBox.new w s ty).next b2, hp.next b1⟩
  · obtain rfl := List.mem_singleton.1 hx
    refine ⟨?_, hk.next b1⟩
    have := CBox.new (w.alloc (.cells #[.slice s.w.a s.w.n s.w.c, .slice s.p.a s.p.n s.p.c, .slice (s.u 0).a (s.u 0).n (s.u 0).c, .slice (s.u 1).a (s.u 1).n (s.u 1).c, .slice (s.u 2).a (s.u 2).n (s.u 2).c, .slice s.c.a s.c.n s.c.c] ty)) k ty'
    rw [World.size_alloc] at this
    rw [h]
    exact this
end
end Go.Proofs.YtfjhhfncapmnmaaGreatDoor.Sh
end
section
namespace Go.Proofs.YtfjhhfncapmnmaaGreatDoor.Sh
open Go.Proofs.YtfjhhfncapmnmaaGreatDoor
open Go.RowKit
set_option maxRecDepth 100000

/-- A box of ten cells that may be stored to. -/
structure T10 (W : World) (b : Nat) : Prop where
  has : ∀ j, j < 10 → ∃ v, W.cell? ⟨b, j, none⟩ = some v
  free : ∀ j, W.frozen? ⟨b, j, none⟩ = false
  lt : b < W.heap.size
def put10 (w : World) (b : Nat) (v0 v1 v2 v3 v4 v5 v6 v7 v8 v9 : Value) : World :=
  (((((((((w.setCell ⟨b, 0, none⟩ v0).setCell ⟨b, 1, none⟩ v1).setCell ⟨b, 2, none⟩ v2).setCell ⟨b, 3, none⟩ v3).setCell ⟨b, 4, none⟩ v4).setCell ⟨b, 5, none⟩ v5).setCell ⟨b, 6, none⟩ v6).setCell ⟨b, 7, none⟩ v7).setCell ⟨b, 8, none⟩ v8).setCell ⟨b, 9, none⟩ v9
theorem put10_other (w : World) (b : Nat) (v0 v1 v2 v3 v4 v5 v6 v7 v8 v9 : Value) {k : Nat} (hk : ¬ k = b) : (put10 w b v0 v1 v2 v3 v4 v5 v6 v7 v8 v9).heap[k]? = w.heap[k]? := by
  unfold put10
  rw [Below.heap_setCell _ _ _ _ (by exact hk), Below.heap_setCell _ _ _ _ (by exact hk), Below.heap_setCell _ _ _ _ (by exact hk), Below.heap_setCell _ _ _ _ (by exact hk), Below.heap_setCell _ _ _ _ (by exact hk), Below.heap_setCell _ _ _ _ (by exact hk), Below.heap_setCell _ _ _ _ (by exact hk), Below.heap_setCell _ _ _ _ (by exact hk), Below.heap_setCell _ _ _ _ (by exact hk), Below.heap_setCell _ _ _ _ (by exact hk)]
theorem below_put10 {B : Nat} {a w : World} (h : Below B a w) {b : Nat} (hb : B ≤ b) (v0 v1 v2 v3 v4 v5 v6 v7 v8 v9 : Value) : Below B a (put10 w b v0 v1 v2 v3 v4 v5 v6 v7 v8 v9) :=
  (((((((((h.setCell (p := ⟨b, 0, none⟩) hb _).setCell (p := ⟨b, 1, none⟩) hb _).setCell (p := ⟨b, 2, none⟩) hb _).setCell (p := ⟨b, 3, none⟩) hb _).setCell (p := ⟨b, 4, none⟩) hb _).setCell (p := ⟨b, 5, none⟩) hb _).setCell (p := ⟨b, 6, none⟩) hb _).setCell (p := ⟨b, 7, none⟩) hb _).setCell (p := ⟨b, 8, none⟩) hb _).setCell (p := ⟨b, 9, none⟩) hb _
section
variable {w W W' : World} {b : Nat} {k : Ks} {xs : List Int} {v : Ls.Sl}
theorem T10.same (h : T10 W b) (hs : W'.heap[b]? = W.heap[b]?) (hl : W.heap.size ≤ W'.heap.size) : T10 W' b :=
  ⟨fun j hj => by obtain ⟨v, e⟩ := h.has j hj; exact ⟨v, (World.cell?_of_block (a := ⟨b, j, none⟩) hs).trans e⟩, fun j => (World.frozen?_of_block (a := ⟨b, j, none⟩) hs).trans (h.free j), Nat.lt_of_lt_of_le h.lt hl⟩
theorem T10.next (h : T10 W b) (hb : Below W.heap.size W W') : T10 W' b := h.same (hb.block b h.lt) hb.size
theorem t10_of (h : CBox W b k) (hf : ∀ j, W.frozen? ⟨b, j, none⟩ = false) : T10 W b :=
  ⟨fun j hj => by
    match j, hj with
    | 0, _ => exact ⟨_, h.c0⟩
    | 1, _ => exact ⟨_, h.c1⟩
    | 2, _ => exact ⟨_, h.c2⟩
    | 3, _ => exact ⟨_, h.c3⟩
    | 4, _ => exact ⟨_, h.c4⟩
    | 5, _ => exact ⟨_, h.c5⟩
    | 6, _ => exact ⟨_, h.c6⟩
    | 7, _ => exact ⟨_, h.c7⟩
    | 8, _ => exact ⟨_, h.c8⟩
    | 9, _ => exact ⟨_, h.c9⟩, hf, h.lt⟩
theorem T10.new (w : World) (k : Ks) (t : TypeId) : T10 (w.alloc (.cells #[.int .i64 k.ph, .int .i64 k.ep, .bool k.mj, .slice k.wk.a k.wk.n k.wk.c, .bool k.ov, .int .i64 k.pa, .int .i64 k.pf, .int .i64 k.ps, .int .i64 k.pc, .bool k.me] t)) w.heap.size := t10_of (CBox.new w k t) fun j => by simp [go_sem]
theorem CBox.same (h : CBox W b k) (hs : W'.heap[b]? = W.heap[b]?) (hl : W.heap.size ≤ W'.heap.size) : CBox W' b k :=
  ⟨(World.cell?_of_block (a := ⟨b, 0, none⟩) hs).trans h.c0, (World.cell?_of_block (a := ⟨b, 1, none⟩) hs).trans h.c1, (World.cell?_of_block (a := ⟨b, 2, none⟩) hs).trans h.c2, (World.cell?_of_block (a := ⟨b, 3, none⟩) hs).trans h.c3, (World.cell?_of_block (a := ⟨b, 4, none⟩) hs).trans h.c4, (World.cell?_of_block (a := ⟨b, 5, none⟩) hs).trans h.c5, (World.cell?_of_block (a := ⟨b, 6, none⟩) hs).trans h.c6, (World.cell?_of_block (a := ⟨b, 7, none⟩) hs).trans h.c7, (World.cell?_of_block (a := ⟨b, 8, none⟩) hs).trans h.c8, (World.cell?_of_block (a := ⟨b, 9, none⟩) hs).trans h.c9, Nat.lt_of_lt_of_le h.lt hl⟩
theorem T10.set (h : T10 W b) (j : Nat) (v : Value) : T10 (W.setCell ⟨b, j, none⟩ v) b :=
  ⟨fun i hi => by
    obtain ⟨x, e⟩ := h.has i hi
    exact ⟨_, cell_set e rfl⟩, frozen_set h.free, by simp only [World.size_setCell]; exact h.lt⟩
theorem T10.put (h : T10 W b) (v0 v1 v2 v3 v4 v5 v6 v7 v8 v9 : Value) : T10 (put10 W b v0 v1 v2 v3 v4 v5 v6 v7 v8 v9) b := (((((((((h.set 0 v0).set 1 v1).set 2 v2).set 3 v3).set 4 v4).set 5 v5).set 6 v6).set 7 v7).set 8 v8).set 9 v9
theorem put10_at (h : T10 W b) (v0 v1 v2 v3 v4 v5 v6 v7 v8 v9 : Value) : (put10 W b v0 v1 v2 v3 v4 v5 v6 v7 v8 v9).cell? ⟨b, 0, none⟩ = some v0 ∧ (put10 W b v0 v1 v2 v3 v4 v5 v6 v7 v8 v9).cell? ⟨b, 1, none⟩ = some v1 ∧ (put10 W b v0 v1 v2 v3 v4 v5 v6 v7 v8 v9).cell? ⟨b, 2, none⟩ = some v2 ∧ (put10 W b v0 v1 v2 v3 v4 v5 v6 v7 v8 v9).cell? ⟨b, 3, none⟩ = some v3 ∧ (put10 W b v0 v1 v2 v3 v4 v5 v6 v7 v8 v9).cell? ⟨b, 4, none⟩ = some v4 ∧ (put10 W b v0 v1 v2 v3 v4 v5 v6 v7 v8 v9).cell? ⟨b, 5, none⟩ = some v5 ∧ (put10 W b v0 v1 v2 v3 v4 v5 v6 v7 v8 v9).cell? ⟨b, 6, none⟩ = some v6 ∧ (put10 W b v0 v1 v2 v3 v4 v5 v6 v7 v8 v9).cell? ⟨b, 7, none⟩ = some v7 ∧ (put10 W b v0 v1 v2 v3 v4 v5 v6 v7 v8 v9).cell? ⟨b, 8, none⟩ = some v8 ∧ (put10 W b v0 v1 v2 v3 v4 v5 v6 v7 v8 v9).cell? ⟨b, 9, none⟩ = some v9 := by
  obtain ⟨x0, h0⟩ := h.has 0 (by decide)
  obtain ⟨x1, h1⟩ := h.has 1 (by decide)
  obtain ⟨x2, h2⟩ := h.has 2 (by decide)
  obtain ⟨x3, h3⟩ := h.has 3 (by decide)
  obtain ⟨x4, h4⟩ := h.has 4 (by decide)
  obtain ⟨x5, h5⟩ := h.has 5 (by decide)
  obtain ⟨x6, h6⟩ := h.has 6 (by decide)
  obtain ⟨x7, h7⟩ := h.has 7 (by decide)
  obtain ⟨x8, h8⟩ := h.has 8 (by decide)
  obtain ⟨x9, h9⟩ := h.has 9 (by decide)
  refine ⟨?_, ?_, ?_, ?_, ?_, ?_, ?_, ?_, ?_, ?_⟩ <;> simp [put10, go_sem, h0, h1, h2, h3, h4, h5, h6, h7, h8, h9]
/-- A collector with another work list. -/
def kw (k : Ks) (v : Ls.Sl) (o : Bool) : Ks := ⟨k.ph, k.ep, k.mj, v, o, k.pa, k.pf, k.ps, k.pc, k.me⟩
theorem CBox.put3 (h : CBox W b k) (v : Ls.Sl) : CBox (W.setCell ⟨b, 3, none⟩ (.slice v.a v.n v.c)) b (kw k v k.ov) :=
  ⟨cell_set h.c0 rfl, cell_set h.c1 rfl, cell_set h.c2 rfl, cell_set h.c3 rfl, cell_set h.c4 rfl, cell_set h.c5 rfl, cell_set h.c6 rfl, cell_set h.c7 rfl, cell_set h.c8 rfl, cell_set h.c9 rfl, by simp only [World.size_setCell]; exact h.lt⟩
def noKs : Ks := ⟨0, 0, false, ⟨none, 0, 0⟩, false, 0, 0, 0, 0, false⟩
/-- What a walk through fresh.Col has. -/
structure Fc (w W : World) (k : Ks) (xs : List Int) : Prop where
  bel : Below w.heap.size w W
  kb : CBox W w.heap.size k
  kt : T10 W w.heap.size
  rt : T10 W (w.heap.size + 1)
  wr : WRow W W.heap.size k xs
theorem Fc.next (h : Fc w W k xs) (hb : Below W.heap.size W W') : Fc w W' k xs := ⟨h.bel.trans (hb.mono h.bel.size), h.kb.next hb, h.kt.next hb, h.rt.next hb, h.wr.next hb⟩
theorem fc_start {ty ty' : TypeId} (hk : WRow w w.heap.size k xs) (h : W = (w.alloc (.cells #[.int .i64 k.ph, .int .i64 k.ep, .bool k.mj, .slice k.wk.a k.wk.n k.wk.c, .bool k.ov, .int .i64 k.pa, .int .i64 k.pf, .int .i64 k.ps, .int .i64 k.pc, .bool k.me] ty)).alloc (.cells #[.int .i64 noKs.ph, .int .i64 noKs.ep, .bool noKs.mj, .slice noKs.wk.a noKs.wk.n noKs.wk.c, .bool noKs.ov, .int .i64 noKs.pa, .int .i64 noKs.pf, .int .i64 noKs.ps, .int .i64 noKs.pc, .bool noKs.me] ty')) : Fc w W k xs ∧ W.heap.size = w.heap.size + 2 := by
  have b1 : Below w.heap.size w W := by rw [h]; exact ((Below.refl _ _).alloc (Nat.le_refl _) _).alloc (by simp) _
  have b2 : Below (w.alloc (.cells #[.int .i64 k.ph, .int .i64 k.ep, .bool k.mj, .slice k.wk.a k.wk.n k.wk.c, .bool k.ov, .int .i64 k.pa, .int .i64 k.pf, .int .i64 k.ps, .int .i64 k.pc, .bool k.me] ty)).heap.size (w.alloc (.cells #[.int .i64 k.ph, .int .i64 k.ep, .bool k.mj, .slice k.wk.a k.wk.n k.wk.c, .bool k.ov, .int .i64 k.pa, .int .i64 k.pf, .int .i64 k.ps, .int .i64 k.pc, .bool k.me] ty)) W := by rw [h]; exact (Below.refl _ _).alloc (Nat.le_refl _) _
  have x := T10.new (w.alloc (.cells #[.int .i64 k.ph, .int .i64 k.ep, .bool k.mj, .slice k.wk.a k.wk.n k.wk.c, .bool k.ov, .int .i64 k.pa, .int .i64 k.pf, .int .i64 k.ps, .int .i64 k.pc, .bool k.me] ty)) noKs ty'
  rw [World.size_alloc] at x
  exact ⟨⟨b1, (CBox.new w k ty).next b2, (T10.new w k ty).next b2, by rw [h]; exact x, hk.next b1⟩, by rw [h]; simp⟩
/-- A copy of a collector. -/
def ColOut (w : World) (k : Ks) (xs : List Int) (e : Ending) (w' : World) : Prop := ∃ v : Ls.Sl, e = .returned (.agg #[.int .i64 k.ph, .int .i64 k.ep, .bool k.mj, .slice v.a v.n v.c, .bool k.ov, .int .i64 k.pa, .int .i64 k.pf, .int .i64 k.ps, .int .i64 k.pc, .bool k.me]) ∧ Ls.Alling w w' v xs
theorem col_end (v0 v1 v2 v3 v4 v5 v6 v7 v8 v9 : Value) (h0 : Fc w W k xs ∧ W.heap.size = w.heap.size + 2) {w1 : World} (ho : w1.ownsRow W.heap.size 3 1 (.slice v.a v.n v.c) v.n (xs.map (Value.int .i64))) (hb : Below W.heap.size W w1) (u : Value) :
    ColOut w k xs (.returned (.agg #[.int .i64 k.ph, .int .i64 k.ep, .bool k.mj, .slice v.a v.n v.c, .bool k.ov, .int .i64 k.pa, .int .i64 k.pf, .int .i64 k.ps, .int .i64 k.pc, .bool k.me])) (put10 (w1.setCell ⟨w.heap.size, 3, none⟩ u) (w.heap.size + 1) v0 v1 v2 v3 v4 v5 v6 v7 v8 v9) := by
  obtain ⟨h0, hs⟩ := h0
  refine ⟨v, rfl, ?_, below_put10 (Below.setCell (h0.bel.trans (hb.mono h0.bel.size)) (p := ⟨w.heap.size, 3, none⟩) (Nat.le_refl _) _) (by omega) v0 v1 v2 v3 v4 v5 v6 v7 v8 v9⟩
  refine own_less' (Ls.World.ownsRow.same ho fun g hg _ => ?_) (show w.heap.size ≤ W.heap.size by omega)
  have := (ho.lt g hg).1
  exact (put10_other _ _ v0 v1 v2 v3 v4 v5 v6 v7 v8 v9 (by omega)).trans (Below.heap_setCell _ _ _ _ (by show ¬ g = w.heap.size; omega))
theorem res_col {tm : Array Value} {v0 v1 v2 v3 v4 v5 v6 v7 v8 v9 : Value} (ht : tm[2]? = some (.pointer (some ⟨b, 0, none⟩))) (k0 : W.cell? ⟨b, 0, none⟩ = some v0) (k1 : W.cell? ⟨b, 1, none⟩ = some v1) (k2 : W.cell? ⟨b, 2, none⟩ = some v2) (k3 : W.cell? ⟨b, 3, none⟩ = some v3) (k4 : W.cell? ⟨b, 4, none⟩ = some v4) (k5 : W.cell? ⟨b, 5, none⟩ = some v5) (k6 : W.cell? ⟨b, 6, none⟩ = some v6) (k7 : W.cell? ⟨b, 7, none⟩ = some v7) (k8 : W.cell? ⟨b, 8, none⟩ = some v8) (k9 : W.cell? ⟨b, 9, none⟩ = some v9) :
    (results Tryz.f36 tm).run Tryz.prog W = .ok (.agg #[v0, v1, v2, v3, v4, v5, v6, v7, v8, v9]) W := by
  simp [results, Tryz.results36, go_sem, ht, k0, k1, k2, k3, k4, k5, k6, k7, k8, k9]
end
set_option maxHeartbeats 2000000 in
theorem fcol_any (k : Ks) (xs : List Int) (w : World) (hk : WRow w w.heap.size k xs) (hn : xs.length ≤ 1000000) : Calls Tryz.prog 36 #[(.agg #[.int .i64 k.ph, .int .i64 k.ep, .bool k.mj, .slice k.wk.a k.wk.n k.wk.c, .bool k.ov, .int .i64 k.pa, .int .i64 k.pf, .int .i64 k.ps, .int .i64 k.pc, .bool k.me])] w (ColOut w k xs) := by
  have HK := Lib.hid hk
  have hn' : k.wk.n ≤ 2000000 := by rw [hk.len]; omega
  clear hk hn
  go_enter Tryz.func36, Tryz.ntmps36
  go_wp2_with fail
  obtain ⟨W0, hW0⟩ : ∃ W0, W0 = (w.alloc (.cells #[.int .i64 k.ph, .int .i64 k.ep, .bool k.mj, .slice k.wk.a k.wk.n k.wk.c, .bool k.ov, .int .i64 k.pa, .int .i64 k.pf, .int .i64 k.ps, .int .i64 k.pc, .bool k.me] 30)).alloc (.cells #[.int .i64 0, .int .i64 0, .bool false, .slice none 0 0, .bool false, .int .i64 0, .int .i64 0, .int .i64 0, .int .i64 0, .bool false] 30) := ⟨_, rfl⟩
  have K0 := Lib.hid (fc_start HK.out hW0)
  rw [← hW0]
  clear hW0
  refine (iclone_any W0.heap.size k.wk.a k.wk.n k.wk.c xs W0 hn' (Nat.le_refl _) K0.out.1.wr).mono ?_
  rintro e w1 ⟨v, rfl, ho, hb⟩
  have T1 := Lib.hid (And.intro ho hb)
  have K1 := Lib.hid (K0.out.1.next hb)
  have q3 := K1.out.kb.c3
  have ql := K1.out.kb.lt
  have f3 := K1.out.kt.free 3
  clear ho hb
  go_upto_region 2 with fail
  obtain ⟨W2, hW2⟩ : ∃ W2, W2 = w1.setCell ⟨w.heap.size, 3, none⟩ (.slice v.a v.n v.c) := ⟨_, rfl⟩
  have KB : Hid (CBox W2 w.heap.size (kw k v k.ov)) := Lib.hid (by rw [hW2]; exact K1.out.kb.put3 v)
  have RT : Hid (T10 W2 (w.heap.size + 1)) := Lib.hid (K1.out.rt.same (by rw [hW2]; exact Below.heap_setCell _ _ _ _ (by show ¬ w.heap.size + 1 = w.heap.size; omega)) (by rw [hW2]; simp [World.setCell]))
  have HW := Lib.hid hW2
  rw [← hW2]
  clear hW2 q3 ql f3
  have p0 := (KB.out).c0
  have p1 := (KB.out).c1
  have p2 := (KB.out).c2
  have p3 := (KB.out).c3
  have p4 := (KB.out).c4
  have p5 := (KB.out).c5
  have p6 := (KB.out).c6
  have p7 := (KB.out).c7
  have p8 := (KB.out).c8
  have p9 := (KB.out).c9
  have pl := (KB.out).lt
  dsimp only [kw] at p0 p1 p2 p3 p4 p5 p6 p7 p8 p9
  have rl := RT.out.lt
  obtain ⟨x0, h0⟩ := RT.out.has 0 (by decide)
  obtain ⟨x1, h1⟩ := RT.out.has 1 (by decide)
  obtain ⟨x2, h2⟩ := RT.out.has 2 (by decide)
  obtain ⟨x3, h3⟩ := RT.out.has 3 (by decide)
  obtain ⟨x4, h4⟩ := RT.out.has 4 (by decide)
  obtain ⟨x5, h5⟩ := RT.out.has 5 (by decide)
  obtain ⟨x6, h6⟩ := RT.out.has 6 (by decide)
  obtain ⟨x7, h7⟩ := RT.out.has 7 (by decide)
  obtain ⟨x8, h8⟩ := RT.out.has 8 (by decide)
  obtain ⟨x9, h9⟩ := RT.out.has 9 (by decide)
  have y0 := RT.out.free 0
  have y1 := RT.out.free 1
  have y2 := RT.out.free 2
  have y3 := RT.out.free 3
  have y4 := RT.out.free 4
  have y5 := RT.out.free 5
  have y6 := RT.out.free 6
  have y7 := RT.out.free 7
  have y8 := RT.out.free 8
  have y9 := RT.out.free 9
  go_wp2
  refine bodyPost_ret (v := (.agg #[.int .i64 k.ph, .int .i64 k.ep, .bool k.mj, .slice v.a v.n v.c, .bool k.ov, .int .i64 k.pa, .int .i64 k.pf, .int .i64 k.ps, .int .i64 k.pc, .bool k.me])) ?_ rfl (by rw [HW.out]; exact col_end _ _ _ _ _ _ _ _ _ _ K0.out T1.out.1 T1.out.2 _)
  obtain ⟨k0, k1, k2, k3, k4, k5, k6, k7, k8, k9⟩ := put10_at RT.out (.int .i64 k.ph) (.int .i64 k.ep) (.bool k.mj) (.slice v.a v.n v.c) (.bool k.ov) (.int .i64 k.pa) (.int .i64 k.pf) (.int .i64 k.ps) (.int .i64 k.pc) (.bool k.me)
  exact res_col rfl k0 k1 k2 k3 k4 k5 k6 k7 k8 k9
end Go.Proofs.YtfjhhfncapmnmaaGreatDoor.Sh
end
section
namespace Go.Proofs.YtfjhhfncapmnmaaGreatDoor.Mu
open Go.Proofs.YtfjhhfncapmnmaaGreatDoor Go.Proofs.YtfjhhfncapmnmaaGreatDoor.Rt
open Go.RowKit
set_option maxRecDepth 100000

structure St where
  n : Tn
  d : Hd_
  xs : List Int
  F : Nat → List Int
  g : Nat → O4
structure Hold (w : World) (P : St) : Prop where
  h : Hp w w.heap.size P.n.s P.d
  c : Sh.WRow w w.heap.size P.n.k P.xs
  t : Th w w.heap.size P.n.t P.F P.g
/-- The same, but for where it lies. -/
structure Eqv (n m : Tn) : Prop where
  wn : n.s.w.n = m.s.w.n
  pn : n.s.p.n = m.s.p.n
  cn : n.s.c.n = m.s.c.n
  k : n.k = Sh.kw m.k n.k.wk m.k.ov
  t : n.t = tw m.t n.t.u n.t.o
  on : n.t.o.n = m.t.o.n
  p : n.p = m.p
  q : n.q = m.q
  e : n.e = m.e
  v : n.v = m.v
  b : n.b = m.b
/-- What a step begins with. -/
structure Pre (w : World) (P : St) : Prop where
  hold : Hold w P
  sz : Cl.Sz w
  fine : Fine P.n.s P.d
  u : ∀ j, j < 3 → (P.n.t.u j).n ≤ 1000000
  o : P.n.t.o.n ≤ 100000
  one : 1 ≤ P.n.t.o.n
  x : P.xs.length ≤ 1000000
  may : mayH P.n.s P.d 1 (fun _ => P.F) = true
section
variable {w W W' : World} {P : St} {n m : Tn}
theorem Hold.next (h : Hold w P) (hb : Below w.heap.size w W) : Hold W P := ⟨h.h.next hb, h.c.next hb, h.t.next hb⟩
theorem Eqv.refl (n : Tn) : Eqv n n := ⟨rfl, rfl, rfl, rfl, rfl, rfl, rfl, rfl, rfl, rfl, rfl⟩
/-- What is told, and done. -/
def endS (P : St) (e v : Int) : St := ⟨endN P.n e v, P.d, P.xs, P.F, gS P.g⟩
theorem Hold.ends (h : Hold w P) (e v : Int) : Hold w (endS P e v) := ⟨h.h, h.c, drop_th h.t⟩
end
/-- A slice lies apart from a block. -/
def Off (b : Nat) (s : Ls.Sl) : Prop := 0 < s.n → ∀ x, s.a = some x → ¬ x.block = b
structure OffH (b : Nat) (s : Hs) : Prop where
  w : Off b s.w
  p : Off b s.p
  u : ∀ j, j < 3 → Off b (s.u j)
  c : Off b s.c
structure OffT (b : Nat) (t : Ts) : Prop where
  u : ∀ j, j < 3 → Off b (t.u j)
  o : Off b t.o
structure OffN (b : Nat) (n : Tn) : Prop where
  h : OffH b n.s
  k : Off b n.k.wk
  t : OffT b n.t
/-- A slice lies apart from two blocks. -/
def Aw (b : Nat) (s : Ls.Sl) : Prop := 0 < s.n → ∀ x, s.a = some x → ¬ x.block = b ∧ ¬ x.block = b + 1
structure AwH (b : Nat) (s : Hs) : Prop where
  w : Aw b s.w
  p : Aw b s.p
  u : ∀ j, j < 3 → Aw b (s.u j)
  c : Aw b s.c
structure AwT (b : Nat) (t : Ts) : Prop where
  u : ∀ j, j < 3 → Aw b (t.u j)
  o : Aw b t.o
structure AwN (b : Nat) (n : Tn) : Prop where
  h : AwH b n.s
  k : Aw b n.k.wk
  t : AwT b n.t
section
variable {w W W' : World} {B n b : Nat} {a : Option Addr} {xs : List Int} {s : Hs} {t : Ts} {d : Hd_} {F : Nat → List Int} {g : Nat → O4}
theorem row_lies (h : Row w B a n xs) : 0 < n → ∀ x, a = some x → x.block < B := fun hn x hx => by
  obtain ⟨b, off, e, hlt, _⟩ := h.2 hn
  rw [hx] at e
  cases e
  exact hlt
theorem row_keep (h : Row w B a n xs) (hs : 0 < n → ∀ x, a = some x → W.heap[x.block]? = w.heap[x.block]?) : Row W B a n xs :=
  ⟨h.1, fun hn => by
    obtain ⟨b, off, e, hlt, hc⟩ := h.2 hn
    have hb := hs hn _ e
    exact ⟨b, off, e, hlt, fun i hi => (World.cell?_of_block (w := w) (w' := W) (a := ⟨b, off + i, none⟩) hb).trans (hc i hi)⟩⟩
theorem prow_lies {f : Nat → Int × Int} (h : Cl.PRow w B a n f) : 0 < n → ∀ x, a = some x → x.block < B := fun hn x hx => by
  obtain ⟨b, off, e, hlt, _⟩ := h hn
  rw [hx] at e
  cases e
  exact hlt
theorem prow_keep {f : Nat → Int × Int} (h : Cl.PRow w B a n f) (hs : 0 < n → ∀ x, a = some x → W.heap[x.block]? = w.heap[x.block]?) : Cl.PRow W B a n f := fun hn => by
  obtain ⟨b, off, e, hlt, hc⟩ := h hn
  have hb := hs hn _ e
  exact ⟨b, off, e, hlt, fun i hi => ⟨(World.cell?_of_block (w := w) (w' := W) (a := ⟨b, off + i * 2, none⟩) hb).trans (hc i hi).1, (World.cell?_of_block (w := w) (w' := W) (a := ⟨b, off + i * 2 + 1, none⟩) hb).trans (hc i hi).2⟩⟩
theorem brow_lies {f : Nat → Bool} (h : BRow w B a n f) : 0 < n → ∀ x, a = some x → x.block < B := fun hn x hx => by
  obtain ⟨b, off, e, hlt, _⟩ := h hn
  rw [hx] at e
  cases e
  exact hlt
theorem brow_keep {f : Nat → Bool} (h : BRow w B a n f) (hs : 0 < n → ∀ x, a = some x → W.heap[x.block]? = w.heap[x.block]?) : BRow W B a n f := fun hn => by
  obtain ⟨b, off, e, hlt, hc⟩ := h hn
  have hb := hs hn _ e
  exact ⟨b, off, e, hlt, fun i hi => (World.cell?_of_block (w := w) (w' := W) (a := ⟨b, off + i, none⟩) hb).trans (hc i hi)⟩
theorem orow_lies (h : ORow w B a n g) : 0 < n → ∀ x, a = some x → x.block < B := fun hn x hx => by
  obtain ⟨b, off, e, hlt, _⟩ := h hn
  rw [hx] at e
  cases e
  exact hlt
theorem aw_lt {u : Ls.Sl} (h : 0 < u.n → ∀ x, u.a = some x → x.block < b) : Aw b u := fun hn x hx => by have := h hn x hx; omega
theorem aw_ge {u : Ls.Sl} (h : 0 < u.n → ∀ x, u.a = some x → b + 2 ≤ x.block) : Aw b u := fun hn x hx => by have := h hn x hx; omega
theorem awh_old (h : Hp w b s d) : AwH b s := ⟨aw_lt (row_lies h.words), aw_lt (prow_lies h.pages), fun j hj => aw_lt (row_lies (h.free j hj).1), aw_lt (brow_lies h.cards)⟩
theorem awt_old (h : Th w b t F g) : AwT b t := ⟨fun j hj => aw_lt (row_lies (h.c j hj).1), aw_lt (orow_lies h.o)⟩
theorem hp_keep (h : Hp w B s d) (ha : AwH b s) (hs : ∀ k, ¬ k = b → ¬ k = b + 1 → W.heap[k]? = w.heap[k]?) : Hp W B s d :=
  have k := fun {u : Ls.Sl} (h : Aw b u) (hn : 0 < u.n) x hx => hs x.block (h hn x hx).1 (h hn x hx).2
  ⟨row_keep h.words (k ha.w), prow_keep h.pages (k ha.p), fun j hj => ⟨row_keep (h.free j hj).1 (k (ha.u j hj)), (h.free j hj).2⟩, brow_keep h.cards (k ha.c)⟩
theorem th_keep (h : Th w B t F g) (ha : AwT b t) (hs : ∀ k, ¬ k = b → ¬ k = b + 1 → W.heap[k]? = w.heap[k]?) : Th W B t F g :=
  have k := fun {u : Ls.Sl} (h : Aw b u) (hn : 0 < u.n) x hx => hs x.block (h hn x hx).1 (h hn x hx).2
  ⟨fun j hj => ⟨row_keep (h.c j hj).1 (k (ha.u j hj)), (h.c j hj).2⟩, h.o.same (k ha.o), h.k⟩
end
theorem hold_keep {w W : World} {P : St} {b : Nat} (h : Hold w P) (ha : AwN b P.n) (hs : ∀ k, ¬ k = b → ¬ k = b + 1 → W.heap[k]? = w.heap[k]?) (hz : W.heap.size = w.heap.size) : Hold W P :=
  ⟨by rw [hz]; exact hp_keep h.h ha.h hs, by rw [hz]; exact row_keep h.c (fun hn x hx => hs x.block (ha.k hn x hx).1 (ha.k hn x hx).2), by rw [hz]; exact th_keep h.t ha.t hs⟩
theorem aw_drop {b : Nat} {o : Ls.Sl} (h : Aw b o) : Aw b (dropSl o) := fun hn x hx => by
  have hn' : 0 < o.n - 1 := hn
  have hx' : (if o.c = 1 then o.a else o.a.map (·.add 4)) = some x := hx
  split at hx'
  · exact h (by omega) x hx'
  · cases e : o.a with
    | none => rw [e] at hx'; cases hx'
    | some y =>
      rw [e] at hx'
      cases hx'
      have := h (by omega) y e
      unfold Addr.add
      split <;> exact this
theorem aw_ends {b : Nat} {n : Tn} (h : AwN b n) (e v : Int) : AwN b (endN n e v) := ⟨h.h, h.k, h.t.u, aw_drop h.t.o⟩
theorem aw_old {w : World} {P : St} (h : Hold w P) : AwN w.heap.size P.n := ⟨awh_old h.h, aw_lt (row_lies h.c), awt_old h.t⟩
theorem off_drop {b : Nat} {o : Ls.Sl} (h : Off b o) : Off b (dropSl o) := fun hn x hx => by
  have hn' : 0 < o.n - 1 := hn
  have hx' : (if o.c = 1 then o.a else o.a.map (·.add 4)) = some x := hx
  split at hx'
  · exact h (by omega) x hx'
  · cases e : o.a with
    | none => rw [e] at hx'; cases hx'
    | some y =>
      rw [e] at hx'
      cases hx'
      have := h (by omega) y e
      unfold Addr.add
      split <;> exact this
theorem off_ends {b : Nat} {n : Tn} (h : OffN b n) (e v : Int) : OffN b (endN n e v) := ⟨h.h, h.k, h.t.u, off_drop h.t.o⟩
theorem aw_off {b : Nat} {n : Tn} (h1 : OffN b n) (h2 : OffN (b + 1) n) : AwN b n :=
  ⟨⟨fun hn x hx => ⟨h1.h.w hn x hx, h2.h.w hn x hx⟩, fun hn x hx => ⟨h1.h.p hn x hx, h2.h.p hn x hx⟩, fun j hj hn x hx => ⟨h1.h.u j hj hn x hx, h2.h.u j hj hn x hx⟩, fun hn x hx => ⟨h1.h.c hn x hx, h2.h.c hn x hx⟩⟩, fun hn x hx => ⟨h1.k hn x hx, h2.k hn x hx⟩, ⟨fun j hj hn x hx => ⟨h1.t.u j hj hn x hx, h2.t.u j hj hn x hx⟩, fun hn x hx => ⟨h1.t.o hn x hx, h2.t.o hn x hx⟩⟩⟩
theorem off_aw {b : Nat} {n : Tn} (h : AwN b n) : OffN b n ∧ OffN (b + 1) n :=
  ⟨⟨⟨fun hn x hx => (h.h.w hn x hx).1, fun hn x hx => (h.h.p hn x hx).1, fun j hj hn x hx => (h.h.u j hj hn x hx).1, fun hn x hx => (h.h.c hn x hx).1⟩, fun hn x hx => (h.k hn x hx).1, ⟨fun j hj hn x hx => (h.t.u j hj hn x hx).1, fun hn x hx => (h.t.o hn x hx).1⟩⟩,
    ⟨⟨fun hn x hx => (h.h.w hn x hx).2, fun hn x hx => (h.h.p hn x hx).2, fun j hj hn x hx => (h.h.u j hj hn x hx).2, fun hn x hx => (h.h.c hn x hx).2⟩, fun hn x hx => (h.k hn x hx).2, ⟨fun j hj hn x hx => (h.t.u j hj hn x hx).2, fun hn x hx => (h.t.o hn x hx).2⟩⟩⟩
/-- What lies apart from a block that is there does so still. -/
def Inh (w : World) (m n : Tn) : Prop := ∀ b, b < w.heap.size → OffN b m → OffN b n
theorem Inh.aw {w : World} {m n : Tn} (h : Inh w m n) {b : Nat} (hb : b + 2 ≤ w.heap.size) (ha : AwN b m) : AwN b n := aw_off (h b (by omega) (off_aw ha).1) (h (b + 1) (by omega) (off_aw ha).2)
def SOut (w : World) (m : Tn) (P : St) (e : Ending) (w' : World) : Prop :=
  ∃ n, e = .returned (.agg (nv n).toArray) ∧ Eqv n P.n ∧ Hold w' ⟨n, P.d, P.xs, P.F, P.g⟩ ∧ Inh w m n ∧ Below w.heap.size w w'
theorem Inh.refl (w : World) (m : Tn) : Inh w m m := fun _ _ h => h
theorem Inh.ends {w : World} {m n : Tn} (h : Inh w m n) (e v : Int) : Inh w m (endN n e v) := fun b hb hm => off_ends (h b hb hm) e v
/-- A method's end, once the result's box is stored. -/
theorem so_fin {w W : World} {n m m0 : Tn} {P : St} (B : Hid (Nb w W n m ∧ Hold W ⟨m, P.d, P.xs, P.F, P.g⟩)) (he : Eqv m P.n) (hi : Inh w m0 m) {fn : Func} {p : Tmp} (hf : fn.results = #[.cell p 75]) {a : Act} (hd : a.defers = []) (ht : a.tmps[p]? = some (.pointer (some ⟨w.heap.size + 1, 0, none⟩))) : bodyPost Tryz.prog fn (SOut w m0 P) .ret a W :=
  bodyPost_ret (v := .agg (nv m).toArray) (res_turn hf ht B.out.1.res) hd ⟨m, rfl, he, B.out.2, hi, B.out.1.bel⟩
/-- What a walk through a method has: the boxes, and what the turn at hand holds. -/
structure Mw (w W : World) (n m : Tn) (d : Hd_) (xs : List Int) (F : Nat → List Int) (g : Nat → O4) : Prop where
  nb : Nb w W n m
  hold : Hold W ⟨n, d, xs, F, g⟩
  aw : AwN w.heap.size n
section
variable {w W W' W0 : World} {P : St} {n n' m m' : Tn} {d d' : Hd_} {xs xs' : List Int} {F F' : Nat → List Int} {g g' : Nat → O4} {ops : Array Oper} {rest : List Oper} {o : Oper} {a : Act} {Q : Exit → Act → World → Prop}
theorem Mw.next (h : Mw w W n m d xs F g) (hb : Below W.heap.size W W') : Mw w W' n m d xs F g := ⟨h.nb.next hb, h.hold.next hb, h.aw⟩
theorem mw_start (P : St) {ty ty' : TypeId} (hh : Hold w P) (h : W = (w.alloc (.cells (nv P.n).toArray ty)).alloc (.cells #[.slice none 0 0, .slice none 0 0, .slice none 0 0, .slice none 0 0, .slice none 0 0, .slice none 0 0, .int .i64 0, .int .i64 0, .bool false, .slice none 0 0, .bool false, .int .i64 0, .int .i64 0, .int .i64 0, .int .i64 0, .bool false, .bool false, .int .i64 0, .int .i64 0, .int .i64 0, .int .i64 0, .slice none 0 0, .slice none 0 0, .slice none 0 0, .int .i64 0, .int .i64 0, .int .i64 0, .slice none 0 0, .int .i64 0, .int .i64 0, .int .i64 0, .int .i64 0, .int .i64 0, .int .i64 0, .int .i64 0, .int .i64 0, .int .i64 0, .int .i64 0, .int .i64 0, .int .i64 0, .int .i64 0, .int .i64 0, .bool false] ty')) : Mw w W P.n noN P.d P.xs P.F P.g := by
  have b := nb_start P.n h
  exact ⟨b, hh.next b.bel, aw_old hh⟩
theorem Mw.over (h : Mw w W n m d xs F g) (hz : Cl.Sz w) : Cl.Sz W := hz.over h.nb.bel hz.pos
/-- A part is stored into the first box: what it holds lies there already. -/
theorem m_one {x y : Operand} {ty : TypeId} {v : Value} {j : Nat} {cs : List Value} (h : Mw w W0 n m d xs F g)
    (hr : (Instr.storeAt ty (.pointer (some ⟨w.heap.size, j, none⟩)) v).run Tryz.prog W0 = .ok () (puts w.heap.size j cs W0)) (hb : Box (puts w.heap.size j cs W0) w.heap.size (nv n')) (hh : Hold W0 ⟨n', d', xs', F', g'⟩) (ha : AwN w.heap.size n') (hw : W = W0) (hgd : o.guard = none) (ho : o.op = .store ty x y) (hx : a.eval x = .pointer (some ⟨w.heap.size, j, none⟩)) (hy : a.eval y = v)
    (hK : ∀ W', Mw w W' n' m d' xs' F' g' → wpList Tryz.prog ops Q rest (a.put o.dst undef) W') : wpList Tryz.prog ops Q (o :: rest) a W :=
  w_store hr hw hgd ho hx hy (hK _ ⟨h.nb.one rfl hb, hold_keep (b := w.heap.size) hh ha (fun _ hk _ => puts_other _ _ _ _ hk) (puts_size _ _ _ _), ha⟩)
/-- .. what another one holds. -/
theorem m_fin {x y : Operand} (h : Mw w W0 n m d xs F g) (hh : Hold W0 ⟨m', d', xs', F', g'⟩) (ha : AwN w.heap.size m') (hw : W = W0) (hgd : o.guard = none) (ho : o.op = .store 75 x y) (hx : a.eval x = .pointer (some ⟨w.heap.size + 1, 0, none⟩)) (hy : a.eval y = .agg (nv m').toArray)
    (hK : ∀ W', Nb w W' n m' ∧ Hold W' ⟨m', d', xs', F', g'⟩ → wpList Tryz.prog ops Q rest (a.put o.dst undef) W') : wpList Tryz.prog ops Q (o :: rest) a W :=
  w_store (stN h.nb.res) hw hgd ho hx hy (hK _ ⟨h.nb.ends rfl, hold_keep (b := w.heap.size) hh ha (fun _ _ hk => puts_other _ _ _ _ hk) (puts_size _ _ _ _)⟩)
end
end Go.Proofs.YtfjhhfncapmnmaaGreatDoor.Mu
end
