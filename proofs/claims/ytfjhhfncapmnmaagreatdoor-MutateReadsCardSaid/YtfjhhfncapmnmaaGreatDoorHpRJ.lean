/-
  Merged texts: MuReads, RtSame, ShFind, HpCopied, HpSetA, HpSet, ShShade, ShBlack, ShGrey, ShListed, PgSame, HpSame, ShLaw, MuLaw.
-/
import Derived.Test.YtfjhhfncapmnmaaGreatDoorRMuStep
import Derived.Test.YtfjhhfncapmnmaaGreatDoorRRtRef
import Derived.Test.YtfjhhfncapmnmaaGreatDoorHpRE
import Derived.Deep.QuietTactic
import Derived.BigQuiet
import Derived.Test.YtfjhhfncapmnmaaGreatDoorHpRH
import Derived.Test.YtfjhhfncapmnmaaGreatDoorHpRG
import Derived.Test.YtfjhhfncapmnmaaGreatDoorHpRF
import Derived.Deep.RegionHeld3
import Derived.Test.YtfjhhfncapmnmaaGreatDoorHpRB
import Derived.Test.YtfjhhfncapmnmaaGreatDoorHpRC
section
namespace Go.Proofs.YtfjhhfncapmnmaaGreatDoor.Mu
open Go.Proofs.YtfjhhfncapmnmaaGreatDoor Go.Proofs.YtfjhhfncapmnmaaGreatDoor.Rt
open Go.RowKit
set_option maxRecDepth 100000

theorem Eqv.trans {n m p : Tn} (h : Eqv n m) (q : Eqv m p) : Eqv n p :=
  ⟨h.wn.trans q.wn, h.pn.trans q.pn, h.cn.trans q.cn, by
    have e1 := h.k
    have e2 := q.k
    have e3 : m.k.ov = p.k.ov := by rw [e2]; rfl
    rw [e1, e3]
    rw [show Sh.kw m.k n.k.wk p.k.ov = Sh.kw (Sh.kw p.k m.k.wk p.k.ov) n.k.wk p.k.ov by rw [← e2]]
    rfl, by
    have e1 := h.t
    have e2 := q.t
    rw [e1]
    rw [show tw m.t n.t.u n.t.o = tw (tw p.t m.t.u m.t.o) n.t.u n.t.o by rw [← e2]]
    rfl, h.on.trans q.on, h.p.trans q.p, h.q.trans q.q, h.e.trans q.e, h.v.trans q.v, h.b.trans q.b⟩
/-- Two states that are the same, but for where they lie. -/
structure Like (P Q : St) : Prop where
  n : Eqv P.n Q.n
  d : P.d = Q.d
  xs : P.xs = Q.xs
  F : P.F = Q.F
  g : P.g = Q.g
theorem SOut.like {w w' : World} {m : Tn} {P Q : St} {e : Ending} (h : SOut w m P e w') (q : Like P Q) : SOut w m Q e w' := by
  obtain ⟨n, h1, h2, h3, h4, h5⟩ := h
  exact ⟨n, h1, h2.trans q.n, by rw [← q.d, ← q.xs, ← q.F, ← q.g]; exact h3, h4, h5⟩
section
variable {n m : Tn} {d : Hd_} {xs : List Int} {F : Nat → List Int} {g : Nat → O4}
theorem Eqv.lens (h : Eqv n m) (a : Int) : headE n.s d a = headE m.s d a ∧ headV n.s d a = headV m.s d a := by
  have hm : mayB0 n.s d = mayB0 m.s d := may_len h.wn h.pn h.cn d 0 noCaches
  have h1 : headE n.s d a = headE m.s d a := by unfold headE; rw [hm, h.pn]
  exact ⟨h1, by unfold headV; rw [h1]⟩
theorem Eqv.get (h : Eqv n m) (r : Int) : getV n.t r = getV m.t r := by rw [h.t]; rfl
theorem Eqv.of (h : Eqv n m) (r : Int) : ofA n.s d n.t r = ofA m.s d m.t r ∧ ofN n.s d n.t r = ofN m.s d m.t r ∧ ofE n.s d n.t r = ofE m.s d m.t r := by
  obtain ⟨e1, e2⟩ := h.lens (d := d) (getV m.t r)
  refine ⟨?_, ?_, ?_⟩
  · unfold ofA objA; rw [h.get, e1]
  · unfold ofN objN; rw [h.get, e1, e2]
  · unfold ofE objE; rw [h.get, e1]
theorem Eqv.fl (h : Eqv n m) (r f : Int) : flA n.s d n.t r f = flA m.s d m.t r f ∧ flX n.s d n.t r f = flX m.s d m.t r f ∧ flE n.s d n.t r f = flE m.s d m.t r f := by
  obtain ⟨e1, e2, e3⟩ := h.of (d := d) r
  have e : flE n.s d n.t r f = flE m.s d m.t r f := by unfold flE; rw [e2, e3]
  exact ⟨by unfold flA; rw [e, e1], by unfold flX; rw [e, e1], e⟩
theorem Eqv.ends (h : Eqv n m) (e v : Int) : Eqv (endN n e v) (endN m e v) :=
  ⟨h.wn, h.pn, h.cn, h.k, by show doneT n.t = _; rw [h.t]; rfl, congrArg (· - 1) h.on, h.p, h.p, rfl, rfl, rfl⟩
theorem Eqv.put (h : Eqv n m) (r a : Int) : Eqv (atT n (putT n.t r a)) (atT m (putT m.t r a)) := by
  refine ⟨h.wn, h.pn, h.cn, h.k, ?_, ?_, h.p, h.q, h.e, h.v, h.b⟩
  · show putT n.t r a = tw (putT m.t r a) (putT n.t r a).u (putT n.t r a).o
    unfold putT
    split
    · rw [h.t]; rfl
    · rfl
  · show (putT n.t r a).o.n = (putT m.t r a).o.n
    unfold putT
    split
    · exact h.on
    · rfl
theorem Like.ends {P Q : St} (h : Like P Q) (e v : Int) : Like (endS P e v) (endS Q e v) := ⟨h.n.ends e v, h.d, h.xs, h.F, by show gS P.g = gS Q.g; rw [h.g]⟩
theorem Like.puts {P Q : St} (h : Like P Q) (r a : Int) : Like (putS P r a) (putS Q r a) := ⟨h.n.put r a, h.d, h.xs, h.F, h.g⟩
end
/-- What the four do. -/
def readS (P : St) : St := if P.n.p.k = 1 then loadS P else if P.n.p.k = 3 then dropS P else if P.n.p.k = 4 then sameS P else sizeS P
theorem Like.drop {P Q : St} (h : Like P Q) : Like (dropS P) (dropS Q) := by
  unfold dropS
  rw [h.n.p]
  split
  · exact (h.puts _ _).ends _ _
  · exact h.ends _ _
theorem Like.keep {P Q : St} (h : Like P Q) : Like (keepS P) (keepS Q) := by
  unfold keepS
  rw [h.n.p, show P.n.t.x = Q.n.t.x by rw [h.n.t]; rfl]
  split
  · exact (h.puts _ _).ends _ _
  · exact h.ends _ _
theorem Like.same {P Q : St} (h : Like P Q) : Like (sameS P) (sameS Q) := by
  unfold sameS
  rw [h.n.p, h.n.get, h.n.get]
  split <;> exact h.ends _ _
theorem Like.size {P Q : St} (h : Like P Q) : Like (sizeS P) (sizeS Q) := by
  obtain ⟨_, e2, e3⟩ := h.n.of (d := Q.d) Q.n.p.a
  unfold sizeS
  rw [h.n.p, h.d, e2, e3]
  split <;> exact h.ends _ _
theorem Like.load {P Q : St} (h : Like P Q) : Like (loadS P) (loadS Q) := by
  obtain ⟨_, e2, e3⟩ := h.n.fl (d := Q.d) Q.n.p.b Q.n.p.c
  unfold loadS
  rw [h.n.p, h.d, e2, e3]
  split
  · split
    · exact (h.puts _ _).ends _ _
    · exact h.ends _ _
  · exact h.ends _ _
theorem Like.read {P Q : St} (h : Like P Q) : Like (readS P) (readS Q) := by
  unfold readS
  rw [h.n.p]
  split
  · exact h.load
  · split
    · exact h.drop
    · split
      · exact h.same
      · exact h.size
/-- What is told, and stays. -/
structure Told (P Q : St) : Prop where
  b : Q.n.b = true
  q : Q.n.q = P.n.p
  wn : Q.n.s.w.n = P.n.s.w.n
  pn : Q.n.s.p.n = P.n.s.p.n
  cn : Q.n.s.c.n = P.n.s.c.n
  k : Q.n.k = P.n.k
  pc : Q.n.t.pc = 0
  x : Q.n.t.x = 0
  y : Q.n.t.y = 0
  lv : Q.n.t.lv = P.n.t.lv
  on : Q.n.t.o.n = P.n.t.o.n - 1
  d : Q.d = P.d
  xs : Q.xs = P.xs
theorem told_ends (P : St) (e v : Int) : Told P (endS P e v) := ⟨rfl, rfl, rfl, rfl, rfl, rfl, rfl, rfl, rfl, rfl, rfl, rfl, rfl⟩
theorem told_put (P : St) {r : Int} (a e v : Int) (hr : inReg r = true) : Told P (endS (putS P r a) e v) := by
  obtain ⟨k, hk, rfl⟩ := inReg_yes hr
  rw [putS, putT_at hk]
  exact ⟨rfl, rfl, rfl, rfl, rfl, rfl, rfl, rfl, rfl, rfl, rfl, rfl, rfl⟩
theorem told_read (P : St) : Told P (readS P) := by
  unfold readS loadS dropS sameS sizeS
  split
  · split
    · next h => split
                · exact told_put P _ _ _ h
                · exact told_ends P _ _
    · exact told_ends P _ _
  · split
    · split
      · next h => exact told_put P _ _ _ h
      · exact told_ends P _ _
    · split <;> split <;> exact told_ends P _ _
theorem step_read (P : St) (w : World) (h : Pre w P) (hk : P.n.p.k = 1 ∨ P.n.p.k = 3 ∨ P.n.p.k = 4 ∨ P.n.p.k = 5) : Calls Tryz.prog 39 #[.agg (nv P.n).toArray] w (SOut w P.n (readS P)) := by
  have hp : ∀ W, Mw w W P.n noN P.d P.xs P.F P.g → Pre W P := fun W hM => ⟨hM.hold, hM.over h.sz, h.fine, h.u, h.o, h.one, h.x, h.may⟩
  rcases hk with e | e | e | e
  · rw [show readS P = loadS P from if_pos e]
    exact step_kind P _ w h 1 117 e rfl rfl (fun W => by kernel_rfl) (fun args W => by go_simp) fun W hM => load_any P W (hp W hM)
  · rw [show readS P = dropS P by unfold readS; rw [if_neg (by omega), if_pos e]]
    exact step_kind P _ w h 3 119 e rfl rfl (fun W => by kernel_rfl) (fun args W => by go_simp) fun W hM => drop_any P W (hp W hM)
  · rw [show readS P = sameS P by unfold readS; rw [if_neg (by omega), if_neg (by omega), if_pos e]]
    exact step_kind P _ w h 4 120 e rfl rfl (fun W => by kernel_rfl) (fun args W => by go_simp) fun W hM => same_any P W (hp W hM)
  · rw [show readS P = sizeS P by unfold readS; rw [if_neg (by omega), if_neg (by omega), if_neg (by omega)]]
    exact step_kind P _ w h 5 121 e rfl rfl (fun W => by kernel_rfl) (fun args W => by go_simp) fun W hM => size_any P W (hp W hM)
/-- Step, of one of the four. -/
theorem pstep_read (s : Hs) (k : Sh.Ks) (t : Ts) (d : Hd_) (xs : List Int) (F : Nat → List Int) (g : Nat → O4) (w : World) (h : In w s k t d xs F g) (hT : takenB s d t F = true) (hk : (g 0).k = 1 ∨ (g 0).k = 3 ∨ (g 0).k = 4 ∨ (g 0).k = 5) :
    Calls Tryz.prog 13 #[(.agg #[.slice s.w.a s.w.n s.w.c, .slice s.p.a s.p.n s.p.c, .slice (s.u 0).a (s.u 0).n (s.u 0).c, .slice (s.u 1).a (s.u 1).n (s.u 1).c, .slice (s.u 2).a (s.u 2).n (s.u 2).c, .slice s.c.a s.c.n s.c.c]), (.agg #[.int .i64 k.ph, .int .i64 k.ep, .bool k.mj, .slice k.wk.a k.wk.n k.wk.c, .bool k.ov, .int .i64 k.pa, .int .i64 k.pf, .int .i64 k.ps, .int .i64 k.pc, .bool k.me]), (.agg #[.bool t.lv, .int .i64 (t.r 0), .int .i64 (t.r 1), .int .i64 (t.r 2), .int .i64 (t.r 3), .slice (t.u 0).a (t.u 0).n (t.u 0).c, .slice (t.u 1).a (t.u 1).n (t.u 1).c, .slice (t.u 2).a (t.u 2).n (t.u 2).c, .int .i64 t.ep, .int .i64 t.sg, .int .i64 t.rt, .slice t.o.a t.o.n t.o.c, .int .i64 t.pc, .int .i64 t.x, .int .i64 t.y])] w (StepOut w (readS ⟨begN s k t (g 0), d, xs, F, g⟩)) :=
  pstep_yes s k t d xs F g w _ h hT fun W n he hp => (step_read ⟨n, d, xs, F, g⟩ W hp (by rw [show (⟨n, d, xs, F, g⟩ : St).n.p = g 0 from he.p]; exact hk)).mono fun _ _ ho => ho.like (Like.read ⟨he, rfl, rfl, rfl, rfl⟩)
end Go.Proofs.YtfjhhfncapmnmaaGreatDoor.Mu
end
section
namespace Go.Proofs.YtfjhhfncapmnmaaGreatDoor.Rt
open Go.Proofs.YtfjhhfncapmnmaaGreatDoor
open Go.RowKit
set_option maxRecDepth 100000

theorem regs_self (a b c d : Int) (w : World) : (binOp .eql 31 (.agg #[.int .i64 a, .int .i64 b, .int .i64 c, .int .i64 d]) (.agg #[.int .i64 a, .int .i64 b, .int .i64 c, .int .i64 d])).run Tryz.prog w = .ok (.bool true) w := by
  have u3 := Tryz.underlying3
  have a3 := Tryz.isAgg3
  have z3 := Tryz.sizeOf3
  rw [run_eql_struct, show (10000 : Nat) = 9999 + 1 from rfl, Op.equalIn]
  simp only [Sem.run_bind, run_underlying Tryz.underlying31, Result.andThen_ok]
  simp only [Std.Legacy.Range.forIn_eq_forIn_range', Std.Legacy.Range.size, Nat.sub_zero, Nat.add_sub_cancel, Nat.div_one, List.range'_succ, List.range'_zero, List.forIn_cons, List.forIn_nil]
  go_simp
theorem op_self (a b c d : Int) (w : World) : (binOp .neq 39 (.agg #[.int .i64 a, .int .i64 b, .int .i64 c, .int .i64 d]) (.agg #[.int .i64 a, .int .i64 b, .int .i64 c, .int .i64 d])).run Tryz.prog w = .ok (.bool false) w := by
  go_simp
structure Tw (w W : World) (t t' : Ts) : Prop where
  bel : Below w.heap.size w W
  one : Box W w.heap.size (tv t)
  two : Box W (w.heap.size + 1) (tv t')
theorem Tw.next {w W W' : World} {t t' : Ts} (h : Tw w W t t') (hb : Below W.heap.size W W') : Tw w W' t t' := ⟨h.bel.trans (hb.mono h.bel.size), h.one.next hb, h.two.next hb⟩
theorem tw_start {w W : World} {t t' : Ts} {ty ty' : TypeId} (h : W = (w.alloc (.cells #[.bool t.lv, .int .i64 (t.r 0), .int .i64 (t.r 1), .int .i64 (t.r 2), .int .i64 (t.r 3), .slice (t.u 0).a (t.u 0).n (t.u 0).c, .slice (t.u 1).a (t.u 1).n (t.u 1).c, .slice (t.u 2).a (t.u 2).n (t.u 2).c, .int .i64 t.ep, .int .i64 t.sg, .int .i64 t.rt, .slice t.o.a t.o.n t.o.c, .int .i64 t.pc, .int .i64 t.x, .int .i64 t.y] ty)).alloc (.cells #[.bool t'.lv, .int .i64 (t'.r 0), .int .i64 (t'.r 1), .int .i64 (t'.r 2), .int .i64 (t'.r 3), .slice (t'.u 0).a (t'.u 0).n (t'.u 0).c, .slice (t'.u 1).a (t'.u 1).n (t'.u 1).c, .slice (t'.u 2).a (t'.u 2).n (t'.u 2).c, .int .i64 t'.ep, .int .i64 t'.sg, .int .i64 t'.rt, .slice t'.o.a t'.o.n t'.o.c, .int .i64 t'.pc, .int .i64 t'.x, .int .i64 t'.y] ty')) : Tw w W t t' := by
  have b2 : Below (w.alloc (.cells #[.bool t.lv, .int .i64 (t.r 0), .int .i64 (t.r 1), .int .i64 (t.r 2), .int .i64 (t.r 3), .slice (t.u 0).a (t.u 0).n (t.u 0).c, .slice (t.u 1).a (t.u 1).n (t.u 1).c, .slice (t.u 2).a (t.u 2).n (t.u 2).c, .int .i64 t.ep, .int .i64 t.sg, .int .i64 t.rt, .slice t.o.a t.o.n t.o.c, .int .i64 t.pc, .int .i64 t.x, .int .i64 t.y] ty)).heap.size (w.alloc (.cells #[.bool t.lv, .int .i64 (t.r 0), .int .i64 (t.r 1), .int .i64 (t.r 2), .int .i64 (t.r 3), .slice (t.u 0).a (t.u 0).n (t.u 0).c, .slice (t.u 1).a (t.u 1).n (t.u 1).c, .slice (t.u 2).a (t.u 2).n (t.u 2).c, .int .i64 t.ep, .int .i64 t.sg, .int .i64 t.rt, .slice t.o.a t.o.n t.o.c, .int .i64 t.pc, .int .i64 t.x, .int .i64 t.y] ty)) W := by rw [h]; exact (Below.refl _ _).alloc (Nat.le_refl _) _
  refine ⟨by rw [h]; exact ((Below.refl _ _).alloc (Nat.le_refl _) _).alloc (by simp) _, (Box.new w (tv t) ty).next b2, ?_⟩
  have := Box.new (w.alloc (.cells #[.bool t.lv, .int .i64 (t.r 0), .int .i64 (t.r 1), .int .i64 (t.r 2), .int .i64 (t.r 3), .slice (t.u 0).a (t.u 0).n (t.u 0).c, .slice (t.u 1).a (t.u 1).n (t.u 1).c, .slice (t.u 2).a (t.u 2).n (t.u 2).c, .int .i64 t.ep, .int .i64 t.sg, .int .i64 t.rt, .slice t.o.a t.o.n t.o.c, .int .i64 t.pc, .int .i64 t.x, .int .i64 t.y] ty)) (tv t') ty'
  rw [World.size_alloc] at this
  rw [h]
  exact this
set_option maxHeartbeats 4000000 in
theorem rsame_core (p : Ts) (u u' : Nat → Ls.Sl) (A A' : Option Addr) (n c c' : Nat) (F : Nat → List Int) (g : Nat → O4) (w : World) (h : Th w w.heap.size (tw p u ⟨A, n, c⟩) F g) (h' : Th w w.heap.size (tw p u' ⟨A', n, c'⟩) F g) (hn : ∀ j, j < 3 → (F j).length ≤ 2000000) (hm : n ≤ 100000) :
    Calls Tryz.prog 17 #[(.agg #[.bool (tw p u ⟨A, n, c⟩).lv, .int .i64 ((tw p u ⟨A, n, c⟩).r 0), .int .i64 ((tw p u ⟨A, n, c⟩).r 1), .int .i64 ((tw p u ⟨A, n, c⟩).r 2), .int .i64 ((tw p u ⟨A, n, c⟩).r 3), .slice ((tw p u ⟨A, n, c⟩).u 0).a ((tw p u ⟨A, n, c⟩).u 0).n ((tw p u ⟨A, n, c⟩).u 0).c, .slice ((tw p u ⟨A, n, c⟩).u 1).a ((tw p u ⟨A, n, c⟩).u 1).n ((tw p u ⟨A, n, c⟩).u 1).c, .slice ((tw p u ⟨A, n, c⟩).u 2).a ((tw p u ⟨A, n, c⟩).u 2).n ((tw p u ⟨A, n, c⟩).u 2).c, .int .i64 (tw p u ⟨A, n, c⟩).ep, .int .i64 (tw p u ⟨A, n, c⟩).sg, .int .i64 (tw p u ⟨A, n, c⟩).rt, .slice (tw p u ⟨A, n, c⟩).o.a (tw p u ⟨A, n, c⟩).o.n (tw p u ⟨A, n, c⟩).o.c, .int .i64 (tw p u ⟨A, n, c⟩).pc, .int .i64 (tw p u ⟨A, n, c⟩).x, .int .i64 (tw p u ⟨A, n, c⟩).y]), (.agg #[.bool (tw p u' ⟨A', n, c'⟩).lv, .int .i64 ((tw p u' ⟨A', n, c'⟩).r 0), .int .i64 ((tw p u' ⟨A', n, c'⟩).r 1), .int .i64 ((tw p u' ⟨A', n, c'⟩).r 2), .int .i64 ((tw p u' ⟨A', n, c'⟩).r 3), .slice ((tw p u' ⟨A', n, c'⟩).u 0).a ((tw p u' ⟨A', n, c'⟩).u 0).n ((tw p u' ⟨A', n, c'⟩).u 0).c, .slice ((tw p u' ⟨A', n, c'⟩).u 1).a ((tw p u' ⟨A', n, c'⟩).u 1).n ((tw p u' ⟨A', n, c'⟩).u 1).c, .slice ((tw p u' ⟨A', n, c'⟩).u 2).a ((tw p u' ⟨A', n, c'⟩).u 2).n ((tw p u' ⟨A', n, c'⟩).u 2).c, .int .i64 (tw p u' ⟨A', n, c'⟩).ep, .int .i64 (tw p u' ⟨A', n, c'⟩).sg, .int .i64 (tw p u' ⟨A', n, c'⟩).rt, .slice (tw p u' ⟨A', n, c'⟩).o.a (tw p u' ⟨A', n, c'⟩).o.n (tw p u' ⟨A', n, c'⟩).o.c, .int .i64 (tw p u' ⟨A', n, c'⟩).pc, .int .i64 (tw p u' ⟨A', n, c'⟩).x, .int .i64 (tw p u' ⟨A', n, c'⟩).y])] w fun e w' => e = .returned (.bool true) ∧ Below w.heap.size w w' := by
  have HT := Lib.hid h
  have HT' := Lib.hid h'
  have C1 := Lib.hid (fun W (hb : Below w.heap.size w W) => Ls.same_any w.heap.size w.heap.size u u' F F W (h.c.below hb) hb.size (h'.c.below hb) hb.size (fun j hj => by have := h.c.len j hj; have := hn j hj; show (u j).n ≤ _; simp only [tw] at *; omega) (fun j hj => by have := h'.c.len j hj; have := hn j hj; show (u' j).n ≤ _; simp only [tw] at *; omega))
  have hs : decide (Ls.sameUp F F 3) = true := decide_eq_true (fun _ _ => rfl)
  rw [hs] at C1
  have qr := fun w => regs_self (p.r 0) (p.r 1) (p.r 2) (p.r 3) w
  clear h h' hn hs
  dsimp only [tw]
  go_enter Tryz.func17, Tryz.ntmps17
  go_upto_region 1 with fail
  obtain ⟨W0, hW0⟩ : ∃ W0, W0 = (w.alloc (.cells #[.bool (tw p u ⟨A, n, c⟩).lv, .int .i64 ((tw p u ⟨A, n, c⟩).r 0), .int .i64 ((tw p u ⟨A, n, c⟩).r 1), .int .i64 ((tw p u ⟨A, n, c⟩).r 2), .int .i64 ((tw p u ⟨A, n, c⟩).r 3), .slice ((tw p u ⟨A, n, c⟩).u 0).a ((tw p u ⟨A, n, c⟩).u 0).n ((tw p u ⟨A, n, c⟩).u 0).c, .slice ((tw p u ⟨A, n, c⟩).u 1).a ((tw p u ⟨A, n, c⟩).u 1).n ((tw p u ⟨A, n, c⟩).u 1).c, .slice ((tw p u ⟨A, n, c⟩).u 2).a ((tw p u ⟨A, n, c⟩).u 2).n ((tw p u ⟨A, n, c⟩).u 2).c, .int .i64 (tw p u ⟨A, n, c⟩).ep, .int .i64 (tw p u ⟨A, n, c⟩).sg, .int .i64 (tw p u ⟨A, n, c⟩).rt, .slice (tw p u ⟨A, n, c⟩).o.a (tw p u ⟨A, n, c⟩).o.n (tw p u ⟨A, n, c⟩).o.c, .int .i64 (tw p u ⟨A, n, c⟩).pc, .int .i64 (tw p u ⟨A, n, c⟩).x, .int .i64 (tw p u ⟨A, n, c⟩).y] 34)).alloc (.cells #[.bool (tw p u' ⟨A', n, c'⟩).lv, .int .i64 ((tw p u' ⟨A', n, c'⟩).r 0), .int .i64 ((tw p u' ⟨A', n, c'⟩).r 1), .int .i64 ((tw p u' ⟨A', n, c'⟩).r 2), .int .i64 ((tw p u' ⟨A', n, c'⟩).r 3), .slice ((tw p u' ⟨A', n, c'⟩).u 0).a ((tw p u' ⟨A', n, c'⟩).u 0).n ((tw p u' ⟨A', n, c'⟩).u 0).c, .slice ((tw p u' ⟨A', n, c'⟩).u 1).a ((tw p u' ⟨A', n, c'⟩).u 1).n ((tw p u' ⟨A', n, c'⟩).u 1).c, .slice ((tw p u' ⟨A', n, c'⟩).u 2).a ((tw p u' ⟨A', n, c'⟩).u 2).n ((tw p u' ⟨A', n, c'⟩).u 2).c, .int .i64 (tw p u' ⟨A', n, c'⟩).ep, .int .i64 (tw p u' ⟨A', n, c'⟩).sg, .int .i64 (tw p u' ⟨A', n, c'⟩).rt, .slice (tw p u' ⟨A', n, c'⟩).o.a (tw p u' ⟨A', n, c'⟩).o.n (tw p u' ⟨A', n, c'⟩).o.c, .int .i64 (tw p u' ⟨A', n, c'⟩).pc, .int .i64 (tw p u' ⟨A', n, c'⟩).x, .int .i64 (tw p u' ⟨A', n, c'⟩).y] 34) := ⟨_, rfl⟩
  have K0 := Lib.hid (tw_start hW0)
  dsimp only [tw] at hW0
  rw [← hW0]
  clear hW0
  have x0 := (K0.out.one).cel 0 (.bool (tw p u ⟨A, n, c⟩).lv) rfl
  have x1 := (K0.out.one).cel 1 (.int .i64 ((tw p u ⟨A, n, c⟩).r 0)) rfl
  have x2 := (K0.out.one).cel 2 (.int .i64 ((tw p u ⟨A, n, c⟩).r 1)) rfl
  have x3 := (K0.out.one).cel 3 (.int .i64 ((tw p u ⟨A, n, c⟩).r 2)) rfl
  have x4 := (K0.out.one).cel 4 (.int .i64 ((tw p u ⟨A, n, c⟩).r 3)) rfl
  have x5 := (K0.out.one).cel 5 (.slice ((tw p u ⟨A, n, c⟩).u 0).a ((tw p u ⟨A, n, c⟩).u 0).n ((tw p u ⟨A, n, c⟩).u 0).c) rfl
  have x6 := (K0.out.one).cel 6 (.slice ((tw p u ⟨A, n, c⟩).u 1).a ((tw p u ⟨A, n, c⟩).u 1).n ((tw p u ⟨A, n, c⟩).u 1).c) rfl
  have x7 := (K0.out.one).cel 7 (.slice ((tw p u ⟨A, n, c⟩).u 2).a ((tw p u ⟨A, n, c⟩).u 2).n ((tw p u ⟨A, n, c⟩).u 2).c) rfl
  have x8 := (K0.out.one).cel 8 (.int .i64 (tw p u ⟨A, n, c⟩).ep) rfl
  have x9 := (K0.out.one).cel 9 (.int .i64 (tw p u ⟨A, n, c⟩).sg) rfl
  have x10 := (K0.out.one).cel 10 (.int .i64 (tw p u ⟨A, n, c⟩).rt) rfl
  have x11 := (K0.out.one).cel 11 (.slice (tw p u ⟨A, n, c⟩).o.a (tw p u ⟨A, n, c⟩).o.n (tw p u ⟨A, n, c⟩).o.c) rfl
  have x12 := (K0.out.one).cel 12 (.int .i64 (tw p u ⟨A, n, c⟩).pc) rfl
  have x13 := (K0.out.one).cel 13 (.int .i64 (tw p u ⟨A, n, c⟩).x) rfl
  have x14 := (K0.out.one).cel 14 (.int .i64 (tw p u ⟨A, n, c⟩).y) rfl
  have xl := (K0.out.one).lt
  have y0 := (K0.out.two).cel 0 (.bool (tw p u' ⟨A', n, c'⟩).lv) rfl
  have y1 := (K0.out.two).cel 1 (.int .i64 ((tw p u' ⟨A', n, c'⟩).r 0)) rfl
  have y2 := (K0.out.two).cel 2 (.int .i64 ((tw p u' ⟨A', n, c'⟩).r 1)) rfl
  have y3 := (K0.out.two).cel 3 (.int .i64 ((tw p u' ⟨A', n, c'⟩).r 2)) rfl
  have y4 := (K0.out.two).cel 4 (.int .i64 ((tw p u' ⟨A', n, c'⟩).r 3)) rfl
  have y5 := (K0.out.two).cel 5 (.slice ((tw p u' ⟨A', n, c'⟩).u 0).a ((tw p u' ⟨A', n, c'⟩).u 0).n ((tw p u' ⟨A', n, c'⟩).u 0).c) rfl
  have y6 := (K0.out.two).cel 6 (.slice ((tw p u' ⟨A', n, c'⟩).u 1).a ((tw p u' ⟨A', n, c'⟩).u 1).n ((tw p u' ⟨A', n, c'⟩).u 1).c) rfl
  have y7 := (K0.out.two).cel 7 (.slice ((tw p u' ⟨A', n, c'⟩).u 2).a ((tw p u' ⟨A', n, c'⟩).u 2).n ((tw p u' ⟨A', n, c'⟩).u 2).c) rfl
  have y8 := (K0.out.two).cel 8 (.int .i64 (tw p u' ⟨A', n, c'⟩).ep) rfl
  have y9 := (K0.out.two).cel 9 (.int .i64 (tw p u' ⟨A', n, c'⟩).sg) rfl
  have y10 := (K0.out.two).cel 10 (.int .i64 (tw p u' ⟨A', n, c'⟩).rt) rfl
  have y11 := (K0.out.two).cel 11 (.slice (tw p u' ⟨A', n, c'⟩).o.a (tw p u' ⟨A', n, c'⟩).o.n (tw p u' ⟨A', n, c'⟩).o.c) rfl
  have y12 := (K0.out.two).cel 12 (.int .i64 (tw p u' ⟨A', n, c'⟩).pc) rfl
  have y13 := (K0.out.two).cel 13 (.int .i64 (tw p u' ⟨A', n, c'⟩).x) rfl
  have y14 := (K0.out.two).cel 14 (.int .i64 (tw p u' ⟨A', n, c'⟩).y) rfl
  have yl := (K0.out.two).lt
  dsimp only [tw] at x0 x1 x2 x3 x4 x5 x6 x7 x8 x9 x10 x11 x12 x13 x14 y0 y1 y2 y3 y4 y5 y6 y7 y8 y9 y10 y11 y12 y13 y14
  go_wp2_with fail
  refine (C1.out W0 K0.out.bel).mono ?_
  rintro e w1 ⟨rfl, hb1⟩
  have K1 := Lib.hid (K0.out.next hb1)
  clear hb1
  clear x0 x1 x2 x3 x4 x5 x6 x7 x8 x9 x10 x11 x12 x13 x14 xl
  clear y0 y1 y2 y3 y4 y5 y6 y7 y8 y9 y10 y11 y12 y13 y14 yl
  have x0 := (K1.out.one).cel 0 (.bool (tw p u ⟨A, n, c⟩).lv) rfl
  have x1 := (K1.out.one).cel 1 (.int .i64 ((tw p u ⟨A, n, c⟩).r 0)) rfl
  have x2 := (K1.out.one).cel 2 (.int .i64 ((tw p u ⟨A, n, c⟩).r 1)) rfl
  have x3 := (K1.out.one).cel 3 (.int .i64 ((tw p u ⟨A, n, c⟩).r 2)) rfl
  have x4 := (K1.out.one).cel 4 (.int .i64 ((tw p u ⟨A, n, c⟩).r 3)) rfl
  have x5 := (K1.out.one).cel 5 (.slice ((tw p u ⟨A, n, c⟩).u 0).a ((tw p u ⟨A, n, c⟩).u 0).n ((tw p u ⟨A, n, c⟩).u 0).c) rfl
  have x6 := (K1.out.one).cel 6 (.slice ((tw p u ⟨A, n, c⟩).u 1).a ((tw p u ⟨A, n, c⟩).u 1).n ((tw p u ⟨A, n, c⟩).u 1).c) rfl
  have x7 := (K1.out.one).cel 7 (.slice ((tw p u ⟨A, n, c⟩).u 2).a ((tw p u ⟨A, n, c⟩).u 2).n ((tw p u ⟨A, n, c⟩).u 2).c) rfl
  have x8 := (K1.out.one).cel 8 (.int .i64 (tw p u ⟨A, n, c⟩).ep) rfl
  have x9 := (K1.out.one).cel 9 (.int .i64 (tw p u ⟨A, n, c⟩).sg) rfl
  have x10 := (K1.out.one).cel 10 (.int .i64 (tw p u ⟨A, n, c⟩).rt) rfl
  have x11 := (K1.out.one).cel 11 (.slice (tw p u ⟨A, n, c⟩).o.a (tw p u ⟨A, n, c⟩).o.n (tw p u ⟨A, n, c⟩).o.c) rfl
  have x12 := (K1.out.one).cel 12 (.int .i64 (tw p u ⟨A, n, c⟩).pc) rfl
  have x13 := (K1.out.one).cel 13 (.int .i64 (tw p u ⟨A, n, c⟩).x) rfl
  have x14 := (K1.out.one).cel 14 (.int .i64 (tw p u ⟨A, n, c⟩).y) rfl
  have xl := (K1.out.one).lt
  have y0 := (K1.out.two).cel 0 (.bool (tw p u' ⟨A', n, c'⟩).lv) rfl
  have y1 := (K1.out.two).cel 1 (.int .i64 ((tw p u' ⟨A', n, c'⟩).r 0)) rfl
  have y2 := (K1.out.two).cel 2 (.int .i64 ((tw p u' ⟨A', n, c'⟩).r 1)) rfl
  have y3 := (K1.out.two).cel 3 (.int .i64 ((tw p u' ⟨A', n, c'⟩).r 2)) rfl
  have y4 := (K1.out.two).cel 4 (.int .i64 ((tw p u' ⟨A', n, c'⟩).r 3)) rfl
  have y5 := (K1.out.two).cel 5 (.slice ((tw p u' ⟨A', n, c'⟩).u 0).a ((tw p u' ⟨A', n, c'⟩).u 0).n ((tw p u' ⟨A', n, c'⟩).u 0).c) rfl
  have y6 := (K1.out.two).cel 6 (.slice ((tw p u' ⟨A', n, c'⟩).u 1).a ((tw p u' ⟨A', n, c'⟩).u 1).n ((tw p u' ⟨A', n, c'⟩).u 1).c) rfl
  have y7 := (K1.out.two).cel 7 (.slice ((tw p u' ⟨A', n, c'⟩).u 2).a ((tw p u' ⟨A', n, c'⟩).u 2).n ((tw p u' ⟨A', n, c'⟩).u 2).c) rfl
  have y8 := (K1.out.two).cel 8 (.int .i64 (tw p u' ⟨A', n, c'⟩).ep) rfl
  have y9 := (K1.out.two).cel 9 (.int .i64 (tw p u' ⟨A', n, c'⟩).sg) rfl
  have y10 := (K1.out.two).cel 10 (.int .i64 (tw p u' ⟨A', n, c'⟩).rt) rfl
  have y11 := (K1.out.two).cel 11 (.slice (tw p u' ⟨A', n, c'⟩).o.a (tw p u' ⟨A', n, c'⟩).o.n (tw p u' ⟨A', n, c'⟩).o.c) rfl
  have y12 := (K1.out.two).cel 12 (.int .i64 (tw p u' ⟨A', n, c'⟩).pc) rfl
  have y13 := (K1.out.two).cel 13 (.int .i64 (tw p u' ⟨A', n, c'⟩).x) rfl
  have y14 := (K1.out.two).cel 14 (.int .i64 (tw p u' ⟨A', n, c'⟩).y) rfl
  have yl := (K1.out.two).lt
  dsimp only [tw] at x0 x1 x2 x3 x4 x5 x6 x7 x8 x9 x10 x11 x12 x13 x14 y0 y1 y2 y3 y4 y5 y6 y7 y8 y9 y10 y11 y12 y13 y14
  go_wp2
  go_loopw [7] (fun i wr => ∃ k d : Nat, k ≤ n ∧ i = .int .i64 k ∧ wr = w1.drewN d) (fun i _ => n - (intOf i).toNat)
  case atStart => exact ⟨0, 0, Nat.zero_le _, rfl, rfl⟩
  case round =>
    obtain ⟨k, d, hk, rfl, rfl⟩ := hrel
    by_cases hlt : k < n
    · obtain ⟨b, off, rfl, _, hc⟩ := (HT.out.next K1.out.bel).o (by show 0 < n; omega)
      obtain ⟨b', off', rfl, _, hc'⟩ := (HT'.out.next K1.out.bel).o (by show 0 < n; omega)
      obtain ⟨h0, h1, h2, h3⟩ := hc k hlt
      obtain ⟨g0, g1, g2, g3⟩ := hc' k hlt
      have qo := fun w => op_self (g k).k (g k).a (g k).b (g k).c w
      clear hc hc'
      go_wp2
      go_quiet (fail)
      go_wp2
      go_roundw
      case rel => exact ⟨k + 1, _, by omega, by go_num, rfl⟩
      case measure => simp [intOf]; omega
    · obtain rfl : k = n := by omega
      go_wp2
      go_ret
      exact ⟨rfl, Ls.below_drawn (K1.out.bel) _⟩
/-- .. as two copies of a thread. -/
theorem rsame_yes (p t t' : Ts) (F : Nat → List Int) (g : Nat → O4) (w : World) (e : t = tw p t.u t.o) (e' : t' = tw p t'.u t'.o) (ho : t'.o.n = t.o.n) (h : Th w w.heap.size t F g) (h' : Th w w.heap.size t' F g) (hn : ∀ j, j < 3 → (F j).length ≤ 2000000) (hm : t.o.n ≤ 100000) :
    Calls Tryz.prog 17 #[(.agg #[.bool t.lv, .int .i64 (t.r 0), .int .i64 (t.r 1), .int .i64 (t.r 2), .int .i64 (t.r 3), .slice (t.u 0).a (t.u 0).n (t.u 0).c, .slice (t.u 1).a (t.u 1).n (t.u 1).c, .slice (t.u 2).a (t.u 2).n (t.u 2).c, .int .i64 t.ep, .int .i64 t.sg, .int .i64 t.rt, .slice t.o.a t.o.n t.o.c, .int .i64 t.pc, .int .i64 t.x, .int .i64 t.y]), (.agg #[.bool t'.lv, .int .i64 (t'.r 0), .int .i64 (t'.r 1), .int .i64 (t'.r 2), .int .i64 (t'.r 3), .slice (t'.u 0).a (t'.u 0).n (t'.u 0).c, .slice (t'.u 1).a (t'.u 1).n (t'.u 1).c, .slice (t'.u 2).a (t'.u 2).n (t'.u 2).c, .int .i64 t'.ep, .int .i64 t'.sg, .int .i64 t'.rt, .slice t'.o.a t'.o.n t'.o.c, .int .i64 t'.pc, .int .i64 t'.x, .int .i64 t'.y])] w fun e w' => e = .returned (.bool true) ∧ Below w.heap.size w w' := by
  have q : t'.o = ⟨t'.o.a, t.o.n, t'.o.c⟩ := by rw [← ho]
  rw [q] at e'
  rw [e] at h
  rw [e'] at h'
  have := rsame_core p t.u t'.u t.o.a t'.o.a t.o.n t.o.c t'.o.c F g w h h' hn hm
  rw [e, e']
  exact this
end Go.Proofs.YtfjhhfncapmnmaaGreatDoor.Rt
end
section
namespace Go.Proofs.YtfjhhfncapmnmaaGreatDoor.Sh
open Go.Proofs.YtfjhhfncapmnmaaGreatDoor
open Go.RowKit
set_option maxRecDepth 100000

/-- A head's colour. -/
def colH (o e : Bool) (m : Int) (mj : Bool) (ep : Int) : Int := if o = true ∧ mj = false then 0 else if m < ep then 1 else if e = true then 3 else 2
theorem two_allocs {w : World} (o1 o2 : Obj) : Below w.heap.size w ((w.alloc o1).alloc o2) := ((Below.refl _ _).alloc (Nat.le_refl _) o1).alloc (by simp) o2
set_option maxHeartbeats 4000000 in
theorem of_any (u o e : Bool) (n b m : Int) (k : Ks) (w : World) : Calls Tryz.prog 113 #[.agg #[.bool u, .bool o, .bool e, .int .i64 n, .int .i64 b, .int .i64 m], (.agg #[.int .i64 k.ph, .int .i64 k.ep, .bool k.mj, .slice k.wk.a k.wk.n k.wk.c, .bool k.ov, .int .i64 k.pa, .int .i64 k.pf, .int .i64 k.ps, .int .i64 k.pc, .bool k.me])] w fun e' w' => e' = .returned (.int .i64 (colH o e m k.mj k.ep)) ∧ Below w.heap.size w w' := by
  obtain ⟨ph, ep, mj, wk, ov, pa, pf, ps, pc, me⟩ := k
  dsimp only
  by_cases h : m < ep
  · have a0 : decide (m < ep) = true := decide_eq_true h
    have e1 : colH true e m false ep = 0 := if_pos ⟨rfl, rfl⟩
    have e2 : ∀ o mj, ¬ (o = true ∧ mj = false) → colH o e m mj ep = 1 := fun o mj hh => by unfold colH; rw [if_neg hh, if_pos h]
    clear h
    cases o <;> cases mj
    · rw [e2 _ _ (by decide)]
      clear e1 e2
      go_enter Tryz.func113, Tryz.ntmps113
      go_wp2
      go_ret
      exact ⟨rfl, two_allocs _ _⟩
    · rw [e2 _ _ (by decide)]
      clear e1 e2
      go_enter Tryz.func113, Tryz.ntmps113
      go_wp2
      go_ret
      exact ⟨rfl, two_allocs _ _⟩
    · rw [e1]
      clear e1 e2
      go_enter Tryz.func113, Tryz.ntmps113
      go_wp2
      go_ret
      exact ⟨rfl, two_allocs _ _⟩
    · rw [e2 _ _ (by decide)]
      clear e1 e2
      go_enter Tryz.func113, Tryz.ntmps113
      go_wp2
      go_ret
      exact ⟨rfl, two_allocs _ _⟩
  · have a0 : decide (m < ep) = false := decide_eq_false h
    have e1 : colH true e m false ep = 0 := if_pos ⟨rfl, rfl⟩
    have e2 : ∀ o mj, ¬ (o = true ∧ mj = false) → colH o e m mj ep = if e = true then 3 else 2 := fun o mj hh => by unfold colH; rw [if_neg hh, if_neg h]
    clear h
    cases o <;> cases mj
    · rw [e2 _ _ (by decide)]
      clear e1 e2
      cases e
      · go_enter Tryz.func113, Tryz.ntmps113
        go_wp2
        go_ret
        exact ⟨rfl, two_allocs _ _⟩
      · go_enter Tryz.func113, Tryz.ntmps113
        go_wp2
        go_ret
        exact ⟨rfl, two_allocs _ _⟩
    · rw [e2 _ _ (by decide)]
      clear e1 e2
      cases e
      · go_enter Tryz.func113, Tryz.ntmps113
        go_wp2
        go_ret
        exact ⟨rfl, two_allocs _ _⟩
      · go_enter Tryz.func113, Tryz.ntmps113
        go_wp2
        go_ret
        exact ⟨rfl, two_allocs _ _⟩
    · rw [e1]
      clear e1 e2
      go_enter Tryz.func113, Tryz.ntmps113
      go_wp2
      go_ret
      exact ⟨rfl, two_allocs _ _⟩
    · rw [e2 _ _ (by decide)]
      clear e1 e2
      cases e
      · go_enter Tryz.func113, Tryz.ntmps113
        go_wp2
        go_ret
        exact ⟨rfl, two_allocs _ _⟩
      · go_enter Tryz.func113, Tryz.ntmps113
        go_wp2
        go_ret
        exact ⟨rfl, two_allocs _ _⟩
/-- What find tells. -/
def findV (s : Hs) (d : Hd_) (mj : Bool) (ep a q : Int) : Value := if isC s d mj ep a q = true then headOf (wd d a) else noHead
def FindOut (w : World) (V : Value) (c : Bool) (e : Ending) (w' : World) : Prop := e = .returned (.tuple #[V, .bool c]) ∧ Below w.heap.size w w'
/-- What a walk through find has: the heap, the collector, the result's head. -/
structure Fw (w W : World) (s : Hs) (d : Hd_) (k : Ks) (xs : List Int) : Prop where
  l : Lk w W [(w.heap.size, s, d)] [(w.heap.size + 1, k, xs)]
  x : XBox W (w.heap.size + 2)
section
variable {w W W' : World} {s : Hs} {d : Hd_} {k : Ks} {xs : List Int}
theorem Fw.next (h : Fw w W s d k xs) (hb : Below W.heap.size W W') : Fw w W' s d k xs := ⟨h.l.next hb, h.x.next hb⟩
theorem fw_start {ty ty' ty2 : TypeId} (hp : Hp w w.heap.size s d) (hk : WRow w w.heap.size k xs) (h : W = ((w.alloc (.cells #[.slice s.w.a s.w.n s.w.c, .slice s.p.a s.p.n s.p.c, .slice (s.u 0).a (s.u 0).n (s.u 0).c, .slice (s.u 1).a (s.u 1).n (s.u 1).c, .slice (s.u 2).a (s.u 2).n (s.u 2).c, .slice s.c.a s.c.n s.c.c] ty)).alloc (.cells #[.int .i64 k.ph, .int .i64 k.ep, .bool k.mj, .slice k.wk.a k.wk.n k.wk.c, .bool k.ov, .int .i64 k.pa, .int .i64 k.pf, .int .i64 k.ps, .int .i64 k.pc, .bool k.me] ty')).alloc (.cells #[.bool false, .bool false, .bool false, .int .i64 0, .int .i64 0, .int .i64 0] ty2)) : Fw w W s d k xs := by
  have x := XBox.new ((w.alloc (.cells #[.slice s.w.a s.w.n s.w.c, .slice s.p.a s.p.n s.p.c, .slice (s.u 0).a (s.u 0).n (s.u 0).c, .slice (s.u 1).a (s.u 1).n (s.u 1).c, .slice (s.u 2).a (s.u 2).n (s.u 2).c, .slice s.c.a s.c.n s.c.c] ty)).alloc (.cells #[.int .i64 k.ph, .int .i64 k.ep, .bool k.mj, .slice k.wk.a k.wk.n k.wk.c, .bool k.ov, .int .i64 k.pa, .int .i64 k.pf, .int .i64 k.ps, .int .i64 k.pc, .bool k.me] ty')) ty2
  rw [World.size_alloc, World.size_alloc] at x
  refine ⟨(lk_start (ty := ty) (ty' := ty') hp hk rfl).next (by rw [h]; exact (Below.refl _ _).alloc (Nat.le_refl _) _), by rw [h]; exact x⟩
theorem put6_x {b : Nat} (h : XBox W b) (v0 v1 v2 v3 v4 v5 : Value) :
    (put6 W b v0 v1 v2 v3 v4 v5).cell? ⟨b, 0, none⟩ = some v0 ∧ (put6 W b v0 v1 v2 v3 v4 v5).cell? ⟨b, 1, none⟩ = some v1 ∧ (put6 W b v0 v1 v2 v3 v4 v5).cell? ⟨b, 2, none⟩ = some v2 ∧
    (put6 W b v0 v1 v2 v3 v4 v5).cell? ⟨b, 3, none⟩ = some v3 ∧ (put6 W b v0 v1 v2 v3 v4 v5).cell? ⟨b, 4, none⟩ = some v4 ∧ (put6 W b v0 v1 v2 v3 v4 v5).cell? ⟨b, 5, none⟩ = some v5 := by
  have h0 := h.cell 0 (by decide)
  have h1 := h.cell 1 (by decide)
  have h2 := h.cell 2 (by decide)
  have h3 := h.cell 3 (by decide)
  have h4 := h.cell 4 (by decide)
  have h5 := h.cell 5 (by decide)
  refine ⟨?_, ?_, ?_, ?_, ?_, ?_⟩ <;> simp [put6, go_sem, h0, h1, h2, h3, h4, h5]
theorem res_find {b : Nat} {c : Value} {tm : Array Value} {v0 v1 v2 v3 v4 v5 : Value} (ht : tm[8]? = some (.pointer (some ⟨b, 0, none⟩))) (h9 : tm[9]? = some c) (k0 : W.cell? ⟨b, 0, none⟩ = some v0) (k1 : W.cell? ⟨b, 1, none⟩ = some v1) (k2 : W.cell? ⟨b, 2, none⟩ = some v2) (k3 : W.cell? ⟨b, 3, none⟩ = some v3) (k4 : W.cell? ⟨b, 4, none⟩ = some v4) (k5 : W.cell? ⟨b, 5, none⟩ = some v5) :
    (results Tryz.f68 tm).run Tryz.prog W = .ok (.tuple #[.agg #[v0, v1, v2, v3, v4, v5], c]) W := by
  simp [results, Tryz.results68, go_sem, ht, h9, k0, k1, k2, k3, k4, k5]
/-- The result's head's cells. -/
theorem xcells {b : Nat} (h : XBox W b) : (W.cell? ⟨b, 0, none⟩ = some (.bool false) ∧ W.cell? ⟨b, 1, none⟩ = some (.bool false) ∧ W.cell? ⟨b, 2, none⟩ = some (.bool false) ∧ W.cell? ⟨b, 3, none⟩ = some (.int .i64 0) ∧ W.cell? ⟨b, 4, none⟩ = some (.int .i64 0) ∧ W.cell? ⟨b, 5, none⟩ = some (.int .i64 0)) ∧ (W.frozen? ⟨b, 0, none⟩ = false ∧ W.frozen? ⟨b, 1, none⟩ = false ∧ W.frozen? ⟨b, 2, none⟩ = false ∧ W.frozen? ⟨b, 3, none⟩ = false ∧ W.frozen? ⟨b, 4, none⟩ = false ∧ W.frozen? ⟨b, 5, none⟩ = false) ∧ b < W.heap.size :=
  ⟨⟨h.cell 0 (by decide), h.cell 1 (by decide), h.cell 2 (by decide), h.cell 3 (by decide), h.cell 4 (by decide), h.cell 5 (by decide)⟩, ⟨h.free 0, h.free 1, h.free 2, h.free 3, h.free 4, h.free 5⟩, h.lt⟩
end
section
variable (s : Hs) (d : Hd_) (k : Ks) (xs : List Int) (a q : Int) (w : World)
set_option maxHeartbeats 1000000 in
theorem find_ep (hp : Hp w w.heap.size s d) (hk : WRow w w.heap.size k xs) (he : ¬ (0 ≤ k.ep ∧ k.ep ≤ 1048576)) : Calls Tryz.prog 68 #[(.agg #[.slice s.w.a s.w.n s.w.c, .slice s.p.a s.p.n s.p.c, .slice (s.u 0).a (s.u 0).n (s.u 0).c, .slice (s.u 1).a (s.u 1).n (s.u 1).c, .slice (s.u 2).a (s.u 2).n (s.u 2).c, .slice s.c.a s.c.n s.c.c]), (.agg #[.int .i64 k.ph, .int .i64 k.ep, .bool k.mj, .slice k.wk.a k.wk.n k.wk.c, .bool k.ov, .int .i64 k.pa, .int .i64 k.pf, .int .i64 k.ps, .int .i64 k.pc, .bool k.me]), .int .i64 a, .int .i64 q] w (FindOut w noHead false) := by
  have HP := Lib.hid hp
  have HK := Lib.hid hk
  clear hp hk
  by_cases h0 : k.ep < 0
  · have a0 : decide (k.ep < 0) = true := decide_eq_true h0
    clear h0 he
    go_enter Tryz.func68, Tryz.ntmps68
    go_upto_region 1 with fail
    obtain ⟨W0, hW0⟩ : ∃ W0, W0 = ((w.alloc (.cells #[.slice s.w.a s.w.n s.w.c, .slice s.p.a s.p.n s.p.c, .slice (s.u 0).a (s.u 0).n (s.u 0).c, .slice (s.u 1).a (s.u 1).n (s.u 1).c, .slice (s.u 2).a (s.u 2).n (s.u 2).c, .slice s.c.a s.c.n s.c.c] 28)).alloc (.cells #[.int .i64 k.ph, .int .i64 k.ep, .bool k.mj, .slice k.wk.a k.wk.n k.wk.c, .bool k.ov, .int .i64 k.pa, .int .i64 k.pf, .int .i64 k.ps, .int .i64 k.pc, .bool k.me] 30)).alloc (.cells #[.bool false, .bool false, .bool false, .int .i64 0, .int .i64 0, .int .i64 0] 57) := ⟨_, rfl⟩
    have K0 := Lib.hid (fw_start HP.out HK.out hW0)
    rw [← hW0]
    clear hW0
    have q1 := (K0.out.l.cat (w.heap.size + 1) k xs (by simp)).c1
    have ql := (K0.out.l.cat (w.heap.size + 1) k xs (by simp)).lt
    obtain ⟨⟨y0, y1, y2, y3, y4, y5⟩, ⟨z0, z1, z2, z3, z4, z5⟩, zl⟩ := xcells K0.out.x
    go_wp2
    refine bodyPost_ret (v := .tuple #[noHead, .bool false]) ?_ rfl ⟨rfl, below_put6 K0.out.l.bel (b := w.heap.size + 2) (by omega) _ _ _ _ _ _⟩
    obtain ⟨k0, k1, k2, k3, k4, k5⟩ := put6_x K0.out.x (.bool false) (.bool false) (.bool false) (.int .i64 0) (.int .i64 0) (.int .i64 0)
    exact res_find rfl rfl k0 k1 k2 k3 k4 k5
  · have a0 : decide (k.ep < 0) = false := decide_eq_false h0
    have a1 : decide (1048576 < k.ep) = true := decide_eq_true (by omega)
    clear h0 he
    go_enter Tryz.func68, Tryz.ntmps68
    go_upto_region 1 with fail
    obtain ⟨W0, hW0⟩ : ∃ W0, W0 = ((w.alloc (.cells #[.slice s.w.a s.w.n s.w.c, .slice s.p.a s.p.n s.p.c, .slice (s.u 0).a (s.u 0).n (s.u 0).c, .slice (s.u 1).a (s.u 1).n (s.u 1).c, .slice (s.u 2).a (s.u 2).n (s.u 2).c, .slice s.c.a s.c.n s.c.c] 28)).alloc (.cells #[.int .i64 k.ph, .int .i64 k.ep, .bool k.mj, .slice k.wk.a k.wk.n k.wk.c, .bool k.ov, .int .i64 k.pa, .int .i64 k.pf, .int .i64 k.ps, .int .i64 k.pc, .bool k.me] 30)).alloc (.cells #[.bool false, .bool false, .bool false, .int .i64 0, .int .i64 0, .int .i64 0] 57) := ⟨_, rfl⟩
    have K0 := Lib.hid (fw_start HP.out HK.out hW0)
    rw [← hW0]
    clear hW0
    have q1 := (K0.out.l.cat (w.heap.size + 1) k xs (by simp)).c1
    have ql := (K0.out.l.cat (w.heap.size + 1) k xs (by simp)).lt
    obtain ⟨⟨y0, y1, y2, y3, y4, y5⟩, ⟨z0, z1, z2, z3, z4, z5⟩, zl⟩ := xcells K0.out.x
    go_wp2
    refine bodyPost_ret (v := .tuple #[noHead, .bool false]) ?_ rfl ⟨rfl, below_put6 K0.out.l.bel (b := w.heap.size + 2) (by omega) _ _ _ _ _ _⟩
    obtain ⟨k0, k1, k2, k3, k4, k5⟩ := put6_x K0.out.x (.bool false) (.bool false) (.bool false) (.int .i64 0) (.int .i64 0) (.int .i64 0)
    exact res_find rfl rfl k0 k1 k2 k3 k4 k5
set_option maxHeartbeats 1000000 in
theorem find_none (er : Int) (u o e : Bool) (n b m : Int) (h0 : ¬ er = 0) (hp : Hp w w.heap.size s d) (hk : WRow w w.heap.size k xs) (he : 0 ≤ k.ep ∧ k.ep ≤ 1048576) (hH : ∀ W, Fw w W s d k xs → Calls Tryz.prog 22 #[(.agg #[.slice s.w.a s.w.n s.w.c, .slice s.p.a s.p.n s.p.c, .slice (s.u 0).a (s.u 0).n (s.u 0).c, .slice (s.u 1).a (s.u 1).n (s.u 1).c, .slice (s.u 2).a (s.u 2).n (s.u 2).c, .slice s.c.a s.c.n s.c.c]), .int .i64 a] W (HeadOut W (.agg #[.bool u, .bool o, .bool e, .int .i64 n, .int .i64 b, .int .i64 m]) er)) : Calls Tryz.prog 68 #[(.agg #[.slice s.w.a s.w.n s.w.c, .slice s.p.a s.p.n s.p.c, .slice (s.u 0).a (s.u 0).n (s.u 0).c, .slice (s.u 1).a (s.u 1).n (s.u 1).c, .slice (s.u 2).a (s.u 2).n (s.u 2).c, .slice s.c.a s.c.n s.c.c]), (.agg #[.int .i64 k.ph, .int .i64 k.ep, .bool k.mj, .slice k.wk.a k.wk.n k.wk.c, .bool k.ov, .int .i64 k.pa, .int .i64 k.pf, .int .i64 k.ps, .int .i64 k.pc, .bool k.me]), .int .i64 a, .int .i64 q] w (FindOut w noHead false) := by
  have HP := Lib.hid hp
  have HK := Lib.hid hk
  have HH := Lib.hid hH
  have a0 : decide (k.ep < 0) = false := decide_eq_false (by omega)
  have a1 : decide (1048576 < k.ep) = false := decide_eq_false (by omega)
  have d1 : (er != 0) = true := by simp [h0]
  clear hp hk hH he h0
  go_enter Tryz.func68, Tryz.ntmps68
  go_upto_region 1 with fail
  obtain ⟨W0, hW0⟩ : ∃ W0, W0 = ((w.alloc (.cells #[.slice s.w.a s.w.n s.w.c, .slice s.p.a s.p.n s.p.c, .slice (s.u 0).a (s.u 0).n (s.u 0).c, .slice (s.u 1).a (s.u 1).n (s.u 1).c, .slice (s.u 2).a (s.u 2).n (s.u 2).c, .slice s.c.a s.c.n s.c.c] 28)).alloc (.cells #[.int .i64 k.ph, .int .i64 k.ep, .bool k.mj, .slice k.wk.a k.wk.n k.wk.c, .bool k.ov, .int .i64 k.pa, .int .i64 k.pf, .int .i64 k.ps, .int .i64 k.pc, .bool k.me] 30)).alloc (.cells #[.bool false, .bool false, .bool false, .int .i64 0, .int .i64 0, .int .i64 0] 57) := ⟨_, rfl⟩
  have K0 := Lib.hid (fw_start HP.out HK.out hW0)
  rw [← hW0]
  clear hW0
  have p1 := (K0.out.l.cat (w.heap.size + 1) k xs (by simp)).c1
  have pl := (K0.out.l.cat (w.heap.size + 1) k xs (by simp)).lt
  have q0 := (K0.out.l.at (w.heap.size) s d (by simp)).c0
  have q1 := (K0.out.l.at (w.heap.size) s d (by simp)).c1
  have q2 := (K0.out.l.at (w.heap.size) s d (by simp)).c2
  have q3 := (K0.out.l.at (w.heap.size) s d (by simp)).c3
  have q4 := (K0.out.l.at (w.heap.size) s d (by simp)).c4
  have q5 := (K0.out.l.at (w.heap.size) s d (by simp)).c5
  have ql := (K0.out.l.at (w.heap.size) s d (by simp)).lt
  go_wp2_with fail
  refine (HH.out W0 K0.out).mono ?_
  rintro e9 w1 ⟨rfl, hb1⟩
  have hb2 := hb1.alloc hb1.size (.cells #[.bool u, .bool o, .bool e, .int .i64 n, .int .i64 b, .int .i64 m] 57)
  have K2 := Lib.hid (K0.out.next hb2)
  clear hb1 hb2 p1 pl K0 HH
  clear q0 q1 q2 q3 q4 q5 ql
  obtain ⟨⟨y0, y1, y2, y3, y4, y5⟩, ⟨z0, z1, z2, z3, z4, z5⟩, zl⟩ := xcells K2.out.x
  go_wp2
  refine bodyPost_ret (v := .tuple #[noHead, .bool false]) ?_ rfl ⟨rfl, below_put6 K2.out.l.bel (b := w.heap.size + 2) (by omega) _ _ _ _ _ _⟩
  obtain ⟨k0, k1, k2, k3, k4, k5⟩ := put6_x K2.out.x (.bool false) (.bool false) (.bool false) (.int .i64 0) (.int .i64 0) (.int .i64 0)
  exact res_find rfl rfl k0 k1 k2 k3 k4 k5
set_option maxHeartbeats 1000000 in
theorem find_obj (c : Bool) (V : Value) (u o e : Bool) (n b m : Int) (hc : c = decide (colH o e m k.mj k.ep = q)) (hV : V = if c = true then .agg #[.bool u, .bool o, .bool e, .int .i64 n, .int .i64 b, .int .i64 m] else noHead) (hp : Hp w w.heap.size s d) (hk : WRow w w.heap.size k xs) (he : 0 ≤ k.ep ∧ k.ep ≤ 1048576) (hH : ∀ W, Fw w W s d k xs → Calls Tryz.prog 22 #[(.agg #[.slice s.w.a s.w.n s.w.c, .slice s.p.a s.p.n s.p.c, .slice (s.u 0).a (s.u 0).n (s.u 0).c, .slice (s.u 1).a (s.u 1).n (s.u 1).c, .slice (s.u 2).a (s.u 2).n (s.u 2).c, .slice s.c.a s.c.n s.c.c]), .int .i64 a] W (HeadOut W (.agg #[.bool u, .bool o, .bool e, .int .i64 n, .int .i64 b, .int .i64 m]) 0)) : Calls Tryz.prog 68 #[(.agg #[.slice s.w.a s.w.n s.w.c, .slice s.p.a s.p.n s.p.c, .slice (s.u 0).a (s.u 0).n (s.u 0).c, .slice (s.u 1).a (s.u 1).n (s.u 1).c, .slice (s.u 2).a (s.u 2).n (s.u 2).c, .slice s.c.a s.c.n s.c.c]), (.agg #[.int .i64 k.ph, .int .i64 k.ep, .bool k.mj, .slice k.wk.a k.wk.n k.wk.c, .bool k.ov, .int .i64 k.pa, .int .i64 k.pf, .int .i64 k.ps, .int .i64 k.pc, .bool k.me]), .int .i64 a, .int .i64 q] w (FindOut w V c) := by
  have HP := Lib.hid hp
  have HK := Lib.hid hk
  have HH := Lib.hid hH
  have a0 : decide (k.ep < 0) = false := decide_eq_false (by omega)
  have a1 : decide (1048576 < k.ep) = false := decide_eq_false (by omega)
  obtain ⟨x, hx⟩ : ∃ x, x = colH o e m k.mj k.ep := ⟨_, rfl⟩
  have HX := Lib.hid hx
  rw [← hx] at hc
  have HV := Lib.hid hV
  have HC := Lib.hid hc
  clear hp hk hH he hx hV hc
  go_enter Tryz.func68, Tryz.ntmps68
  go_upto_region 1 with fail
  obtain ⟨W0, hW0⟩ : ∃ W0, W0 = ((w.alloc (.cells #[.slice s.w.a s.w.n s.w.c, .slice s.p.a s.p.n s.p.c, .slice (s.u 0).a (s.u 0).n (s.u 0).c, .slice (s.u 1).a (s.u 1).n (s.u 1).c, .slice (s.u 2).a (s.u 2).n (s.u 2).c, .slice s.c.a s.c.n s.c.c] 28)).alloc (.cells #[.int .i64 k.ph, .int .i64 k.ep, .bool k.mj, .slice k.wk.a k.wk.n k.wk.c, .bool k.ov, .int .i64 k.pa, .int .i64 k.pf, .int .i64 k.ps, .int .i64 k.pc, .bool k.me] 30)).alloc (.cells #[.bool false, .bool false, .bool false, .int .i64 0, .int .i64 0, .int .i64 0] 57) := ⟨_, rfl⟩
  have K0 := Lib.hid (fw_start HP.out HK.out hW0)
  rw [← hW0]
  clear hW0
  have p1 := (K0.out.l.cat (w.heap.size + 1) k xs (by simp)).c1
  have pl := (K0.out.l.cat (w.heap.size + 1) k xs (by simp)).lt
  have q0 := (K0.out.l.at (w.heap.size) s d (by simp)).c0
  have q1 := (K0.out.l.at (w.heap.size) s d (by simp)).c1
  have q2 := (K0.out.l.at (w.heap.size) s d (by simp)).c2
  have q3 := (K0.out.l.at (w.heap.size) s d (by simp)).c3
  have q4 := (K0.out.l.at (w.heap.size) s d (by simp)).c4
  have q5 := (K0.out.l.at (w.heap.size) s d (by simp)).c5
  have ql := (K0.out.l.at (w.heap.size) s d (by simp)).lt
  go_wp2_with fail
  refine (HH.out W0 K0.out).mono ?_
  rintro e9 w1 ⟨rfl, hb1⟩
  have hb2 := hb1.alloc hb1.size (.cells #[.bool u, .bool o, .bool e, .int .i64 n, .int .i64 b, .int .i64 m] 57)
  have K2 := Lib.hid (K0.out.next hb2)
  have X2 := Lib.hid (X6.new w1 u o e n b m 57)
  clear hb1 hb2 p1 pl K0 HH
  clear q0 q1 q2 q3 q4 q5 ql
  go_upto_region 4 with fail
  obtain ⟨W2, hW2⟩ : ∃ W2, W2 = w1.alloc (.cells #[.bool u, .bool o, .bool e, .int .i64 n, .int .i64 b, .int .i64 m] 57) := ⟨_, rfl⟩
  obtain ⟨b2, hb2⟩ : ∃ b2, b2 = w1.heap.size := ⟨_, rfl⟩
  rw [← hW2] at K2
  rw [← hW2, ← hb2] at X2
  rw [← hW2, ← hb2]
  clear hW2 hb2
  have x0 := (X2.out).c0
  have x1 := (X2.out).c1
  have x2 := (X2.out).c2
  have x3 := (X2.out).c3
  have x4 := (X2.out).c4
  have x5 := (X2.out).c5
  have xl := (X2.out).lt
  have p0 := (K2.out.l.cat (w.heap.size + 1) k xs (by simp)).c0
  have p1 := (K2.out.l.cat (w.heap.size + 1) k xs (by simp)).c1
  have p2 := (K2.out.l.cat (w.heap.size + 1) k xs (by simp)).c2
  have p3 := (K2.out.l.cat (w.heap.size + 1) k xs (by simp)).c3
  have p4 := (K2.out.l.cat (w.heap.size + 1) k xs (by simp)).c4
  have p5 := (K2.out.l.cat (w.heap.size + 1) k xs (by simp)).c5
  have p6 := (K2.out.l.cat (w.heap.size + 1) k xs (by simp)).c6
  have p7 := (K2.out.l.cat (w.heap.size + 1) k xs (by simp)).c7
  have p8 := (K2.out.l.cat (w.heap.size + 1) k xs (by simp)).c8
  have p9 := (K2.out.l.cat (w.heap.size + 1) k xs (by simp)).c9
  have pl := (K2.out.l.cat (w.heap.size + 1) k xs (by simp)).lt
  go_wp2_with fail
  refine (of_any u o e n b m k W2).mono ?_
  rw [← HX.out]
  rintro e9 w3 ⟨rfl, hb3⟩
  have K3 := Lib.hid (K2.out.next hb3)
  have X3 := Lib.hid (X2.out.next hb3)
  clear hb3 K2 X2
  clear x0 x1 x2 x3 x4 x5 xl
  clear p0 p1 p2 p3 p4 p5 p6 p7 p8 p9 pl
  obtain ⟨⟨y0, y1, y2, y3, y4, y5⟩, ⟨z0, z1, z2, z3, z4, z5⟩, zl⟩ := xcells K3.out.x
  by_cases hq : x = q
  · obtain rfl : c = true := by rw [HC.out]; exact decide_eq_true hq
    obtain rfl : V = .agg #[.bool u, .bool o, .bool e, .int .i64 n, .int .i64 b, .int .i64 m] := HV.out
    have d1 : (x != q) = false := by simp [hq]
    clear hq
    have x0 := (X3.out).c0
    have x1 := (X3.out).c1
    have x2 := (X3.out).c2
    have x3 := (X3.out).c3
    have x4 := (X3.out).c4
    have x5 := (X3.out).c5
    have xl := (X3.out).lt
    go_wp2
    refine bodyPost_ret (v := .tuple #[.agg #[.bool u, .bool o, .bool e, .int .i64 n, .int .i64 b, .int .i64 m], .bool true]) ?_ rfl ⟨rfl, below_put6 K3.out.l.bel (b := w.heap.size + 2) (by omega) _ _ _ _ _ _⟩
    obtain ⟨k0, k1, k2, k3, k4, k5⟩ := put6_x K3.out.x (.bool u) (.bool o) (.bool e) (.int .i64 n) (.int .i64 b) (.int .i64 m)
    exact res_find rfl rfl k0 k1 k2 k3 k4 k5
  · obtain rfl : c = false := by rw [HC.out]; exact decide_eq_false hq
    obtain rfl : V = noHead := HV.out
    have d1 : (x != q) = true := by simp [hq]
    clear hq
    go_wp2
    refine bodyPost_ret (v := .tuple #[noHead, .bool false]) ?_ rfl ⟨rfl, below_put6 K3.out.l.bel (b := w.heap.size + 2) (by omega) _ _ _ _ _ _⟩
    obtain ⟨k0, k1, k2, k3, k4, k5⟩ := put6_x K3.out.x (.bool false) (.bool false) (.bool false) (.int .i64 0) (.int .i64 0) (.int .i64 0)
    exact res_find rfl rfl k0 k1 k2 k3 k4 k5
theorem find_any (hp : Hp w w.heap.size s d) (hk : WRow w w.heap.size k xs) (hz : Cl.Sz w) (hf : Fine s d) : Calls Tryz.prog 68 #[(.agg #[.slice s.w.a s.w.n s.w.c, .slice s.p.a s.p.n s.p.c, .slice (s.u 0).a (s.u 0).n (s.u 0).c, .slice (s.u 1).a (s.u 1).n (s.u 1).c, .slice (s.u 2).a (s.u 2).n (s.u 2).c, .slice s.c.a s.c.n s.c.c]), (.agg #[.int .i64 k.ph, .int .i64 k.ep, .bool k.mj, .slice k.wk.a k.wk.n k.wk.c, .bool k.ov, .int .i64 k.pa, .int .i64 k.pf, .int .i64 k.ps, .int .i64 k.pc, .bool k.me]), .int .i64 a, .int .i64 q] w (FindOut w (findV s d k.mj k.ep a q) (isC s d k.mj k.ep a q)) := by
  have hH := fun (W : World) (h : Fw w W s d k xs) => phead_any s d a W (h.l.hp w.heap.size s d (by simp)) (hz.over h.l.bel hz.pos) hf
  by_cases he : 0 ≤ k.ep ∧ k.ep ≤ 1048576
  · by_cases h0 : headE s d a = 0
    · have ho := obj_of h0
      rw [h0, ho.val] at hH
      refine find_obj s d k xs a q w _ _ _ _ _ _ _ _ ?_ ?_ hp hk he hH
      · unfold isC
        rw [decide_eq_true he, decide_eq_true h0, Bool.true_and, Bool.true_and]
        unfold colW colH
        simp only [decide_eq_true_eq]
      · unfold findV
        rw [headOf_yes ho.word, show decide (wd d a % 2 = 1) = true from decide_eq_true ho.odd]
    · obtain ⟨z0, z1, z2, z3, z4, z5, hv⟩ := head_form s d a
      rw [hv] at hH
      have hc : isC s d k.mj k.ep a q = false := by
        unfold isC
        rw [decide_eq_false h0]
        simp
      rw [show findV s d k.mj k.ep a q = noHead by unfold findV; rw [hc]; rfl, hc]
      exact find_none s d k xs a q w _ _ _ _ _ _ _ h0 hp hk he hH
  · have hc : isC s d k.mj k.ep a q = false := by
      unfold isC
      rw [decide_eq_false he]
      simp
    rw [show findV s d k.mj k.ep a q = noHead by unfold findV; rw [hc]; rfl, hc]
    exact find_ep s d k xs a q w hp hk he
end
end Go.Proofs.YtfjhhfncapmnmaaGreatDoor.Sh
end
section
namespace Go.Proofs.YtfjhhfncapmnmaaGreatDoor
open Go.RowKit
set_option maxRecDepth 100000

end Go.Proofs.YtfjhhfncapmnmaaGreatDoor
end
section
namespace Go.Proofs.YtfjhhfncapmnmaaGreatDoor
open Go.RowKit
set_option maxRecDepth 100000

/-- What a walk through Set has in memory: the heap's box, the head's, the result's. -/
structure St (w W : World) (s : Hs) (d : Hd_) (u o e : Bool) (n b m : Int) : Prop where
  bel : Below w.heap.size w W
  hb : HBox W w.heap.size s
  xb : X6 W (w.heap.size + 1) u o e n b m
  rb : Box6 W (w.heap.size + 2) noHs
  hp : Hp W W.heap.size s d
theorem St.next {w W W' : World} {s : Hs} {d : Hd_} {u o e : Bool} {n b m : Int} (h : St w W s d u o e n b m) (hb : Below W.heap.size W W') : St w W' s d u o e n b m :=
  ⟨h.bel.trans (hb.mono h.bel.size), h.hb.next hb, h.xb.next hb, h.rb.next hb, h.hp.next hb⟩
section
variable (s : Hs) (d : Hd_) (a : Int) (u o e : Bool) (n b m : Int) (w : World)
end
end Go.Proofs.YtfjhhfncapmnmaaGreatDoor
end
section
namespace Go.Proofs.YtfjhhfncapmnmaaGreatDoor
open Go.RowKit
set_option maxRecDepth 100000

section
variable (s : Hs) (d : Hd_) (a : Int) (u o e : Bool) (n b m : Int) (w : World)
end
end Go.Proofs.YtfjhhfncapmnmaaGreatDoor
end
section
namespace Go.Proofs.YtfjhhfncapmnmaaGreatDoor.Sh
open Go.Proofs.YtfjhhfncapmnmaaGreatDoor
open Go.RowKit
set_option maxRecDepth 100000

theorem own_next {W W' : World} {base n : Nat} {v : Value} {xs : List Value} (h : W.ownsRow base 3 1 v n xs) (hb : Below W.heap.size W W') : W'.ownsRow base 3 1 v n xs :=
  Ls.World.ownsRow.same h fun g hg _ => hb.block g (h.lt g hg).2
/-- A box of six cells that may be stored to. -/
structure T6 (W : World) (b : Nat) : Prop where
  has : ∀ j, j < 6 → ∃ v, W.cell? ⟨b, j, none⟩ = some v
  free : ∀ j, W.frozen? ⟨b, j, none⟩ = false
  lt : b < W.heap.size
theorem T6.same {W W' : World} {b : Nat} (h : T6 W b) (hs : W'.heap[b]? = W.heap[b]?) (hl : W.heap.size ≤ W'.heap.size) : T6 W' b :=
  ⟨fun j hj => by obtain ⟨v, e⟩ := h.has j hj; exact ⟨v, (World.cell?_of_block (a := ⟨b, j, none⟩) hs).trans e⟩, fun j => (World.frozen?_of_block (a := ⟨b, j, none⟩) hs).trans (h.free j), Nat.lt_of_lt_of_le h.lt hl⟩
theorem T6.set {W : World} {b : Nat} (h : T6 W b) (j : Nat) (v : Value) : T6 (W.setCell ⟨b, j, none⟩ v) b :=
  ⟨fun i hi => by
    obtain ⟨x, e⟩ := h.has i hi
    exact ⟨_, cell_set e rfl⟩, frozen_set h.free, by simp only [World.size_setCell]; exact h.lt⟩
theorem T6.put {W : World} {b : Nat} (h : T6 W b) (v0 v1 v2 v3 v4 v5 : Value) : T6 (put6 W b v0 v1 v2 v3 v4 v5) b := (((((h.set 0 v0).set 1 v1).set 2 v2).set 3 v3).set 4 v4).set 5 v5
/-- The boxes of a walk through Shade. -/
structure Sw (w W : World) (s : Hs) (d : Hd_) (k : Ks) (xs : List Int) : Prop where
  bel : Below w.heap.size w W
  hb : Box6 W w.heap.size s
  kb : CBox W (w.heap.size + 1) k
  rb : T6 W (w.heap.size + 2)
  rt : T10 W (w.heap.size + 3)
  hp0 : Hp w w.heap.size s d
  wr0 : WRow w w.heap.size k xs
/-- The collector of its own. -/
structure So (w W : World) (k : Ks) (b : Nat) (v : Ls.Sl) (o : Bool) (xs : List Int) : Prop where
  cb : CBox W b (kw k v o)
  ct : T10 W b
  own : W.ownsRow (w.heap.size + 4) 3 1 (.slice v.a v.n v.c) v.n (xs.map (Value.int .i64))
  off : ∀ g, (Value.slice v.a v.n v.c).ownBlock = some g → ¬ g = b
  lo : w.heap.size + 4 ≤ b
section
variable {w W W' w3 : World} {s t : Hs} {d d' : Hd_} {k : Ks} {xs ys : List Int} {b b5 : Nat} {v : Ls.Sl} {o : Bool}
theorem Sw.hp (h : Sw w W s d k xs) : Hp W W.heap.size s d := h.hp0.next h.bel
theorem Sw.wr (h : Sw w W s d k xs) : WRow W W.heap.size k xs := h.wr0.next h.bel
theorem Sw.same (h : Sw w W s d k xs) (hb : Below (w.heap.size + 4) W W') : Sw w W' s d k xs := by
  have hs : ∀ g, g < w.heap.size + 4 → W'.heap[g]? = W.heap[g]? := fun g hg => hb.block g hg
  exact ⟨h.bel.trans (hb.mono (by omega)), h.hb.same (hs _ (by omega)) hb.size, h.kb.same (hs _ (by omega)) hb.size, h.rb.same (hs _ (by omega)) hb.size, h.rt.same (hs _ (by omega)) hb.size, h.hp0, h.wr0⟩
theorem Sw.next (h : Sw w W s d k xs) (hb : Below W.heap.size W W') : Sw w W' s d k xs := h.same (hb.mono (by have := h.rt.lt; omega))
theorem So.next (h : So w W k b v o xs) (hb : Below W.heap.size W W') : So w W' k b v o xs := ⟨h.cb.next hb, h.ct.next hb, own_next h.own hb, h.off, h.lo⟩
/-- Another block is turned. -/
theorem So.other (h : So w W k b v o xs) (hl : W.heap.size ≤ W'.heap.size) (h5 : ¬ b5 = b) (hv : ∀ g, (Value.slice v.a v.n v.c).ownBlock = some g → ¬ g = b5) (hs : ∀ g, ¬ g = b5 → W'.heap[g]? = W.heap[g]?) : So w W' k b v o xs :=
  ⟨h.cb.same (hs _ (fun e => h5 e.symm)) hl, h.ct.same (hs _ (fun e => h5 e.symm)) hl, Ls.World.ownsRow.same h.own fun g hg _ => hs g (hv g hg), h.off, h.lo⟩
end
section
variable {w W W' : World} {s : Hs} {d : Hd_} {k : Ks} {xs : List Int} {b : Nat} {v : Ls.Sl} {o : Bool}
end
section
variable (s : Hs) (d : Hd_) (k : Ks) (xs : List Int) (a : Int) (w : World)
end
section
variable {w W W' w8 : World} {s t : Hs} {d d' : Hd_} {k : Ks} {xs ys : List Int} {b M : Nat} {v v' : Ls.Sl} {o : Bool}
end
section
variable (s : Hs) (d : Hd_) (k : Ks) (xs : List Int) (a : Int) (w : World)
end
end Go.Proofs.YtfjhhfncapmnmaaGreatDoor.Sh
end
section
namespace Go.Proofs.YtfjhhfncapmnmaaGreatDoor.Sh
open Go.Proofs.YtfjhhfncapmnmaaGreatDoor
open Go.RowKit
set_option maxRecDepth 100000

/-- The boxes of a walk through Black. -/
structure Bw (w W : World) (s : Hs) (d : Hd_) (k : Ks) (xs : List Int) : Prop where
  bel : Below w.heap.size w W
  hb : Box6 W w.heap.size s
  kb : CBox W (w.heap.size + 1) k
  rb : T6 W (w.heap.size + 2)
  hp0 : Hp w w.heap.size s d
  wr0 : WRow w w.heap.size k xs
section
variable {w W W' w3 : World} {s t : Hs} {d d' : Hd_} {k : Ks} {xs ys : List Int} {b : Nat}
theorem Bw.hp (h : Bw w W s d k xs) : Hp W W.heap.size s d := h.hp0.next h.bel
theorem Bw.wr (h : Bw w W s d k xs) : WRow W W.heap.size k xs := h.wr0.next h.bel
theorem Bw.same (h : Bw w W s d k xs) (hb : Below (w.heap.size + 3) W W') : Bw w W' s d k xs := by
  have hs : ∀ g, g < w.heap.size + 3 → W'.heap[g]? = W.heap[g]? := fun g hg => hb.block g hg
  exact ⟨h.bel.trans (hb.mono (by omega)), h.hb.same (hs _ (by omega)) hb.size, h.kb.same (hs _ (by omega)) hb.size, h.rb.same (hs _ (by omega)) hb.size, h.hp0, h.wr0⟩
theorem Bw.next (h : Bw w W s d k xs) (hb : Below W.heap.size W W') : Bw w W' s d k xs := h.same (hb.mono (by have := h.rb.lt; omega))
end
section
variable (s : Hs) (d : Hd_) (k : Ks) (xs : List Int) (a : Int) (w : World)
end
end Go.Proofs.YtfjhhfncapmnmaaGreatDoor.Sh
end
section
namespace Go.Proofs.YtfjhhfncapmnmaaGreatDoor.Sh
open Go.Proofs.YtfjhhfncapmnmaaGreatDoor
open Go.RowKit
set_option maxRecDepth 100000

section
variable (s : Hs) (d : Hd_) (k : Ks) (xs : List Int) (w : World)
end
set_option maxHeartbeats 4000000 in
/-- Two collectors that hold the same. -/
theorem ksame_yes (k : Ks) (v v' : Ls.Sl) (o : Bool) (xs : List Int) (w : World) (hr : Row w w.heap.size v.a v.n xs) (hs : Row w w.heap.size v'.a v'.n xs) (hn : xs.length ≤ 1000000) : Calls Tryz.prog 16 #[(.agg #[.int .i64 k.ph, .int .i64 k.ep, .bool k.mj, .slice v.a v.n v.c, .bool o, .int .i64 k.pa, .int .i64 k.pf, .int .i64 k.ps, .int .i64 k.pc, .bool k.me]), (.agg #[.int .i64 k.ph, .int .i64 k.ep, .bool k.mj, .slice v'.a v'.n v'.c, .bool o, .int .i64 k.pa, .int .i64 k.pf, .int .i64 k.ps, .int .i64 k.pc, .bool k.me])] w fun e w' => e = .returned (.bool true) ∧ Below w.heap.size w w' := by
  have h1 : v.n ≤ 4000000 := by rw [← hr.1]; omega
  have h2 : v'.n ≤ 4000000 := by rw [← hs.1]; omega
  have HR := Lib.hid hr
  have HS := Lib.hid hs
  have B0 := Lib.hid (two_allocs (w := w) (.cells #[.int .i64 k.ph, .int .i64 k.ep, .bool k.mj, .slice v.a v.n v.c, .bool o, .int .i64 k.pa, .int .i64 k.pf, .int .i64 k.ps, .int .i64 k.pc, .bool k.me] 30) (.cells #[.int .i64 k.ph, .int .i64 k.ep, .bool k.mj, .slice v'.a v'.n v'.c, .bool o, .int .i64 k.pa, .int .i64 k.pf, .int .i64 k.ps, .int .i64 k.pc, .bool k.me] 30))
  have hc1 : CBox (w.alloc (.cells #[.int .i64 k.ph, .int .i64 k.ep, .bool k.mj, .slice v.a v.n v.c, .bool o, .int .i64 k.pa, .int .i64 k.pf, .int .i64 k.ps, .int .i64 k.pc, .bool k.me] 30)) w.heap.size ⟨k.ph, k.ep, k.mj, v, o, k.pa, k.pf, k.ps, k.pc, k.me⟩ := CBox.new w ⟨k.ph, k.ep, k.mj, v, o, k.pa, k.pf, k.ps, k.pc, k.me⟩ _
  have C1 := Lib.hid (hc1.next ((Below.refl _ _).alloc (Nat.le_refl _) (.cells #[.int .i64 k.ph, .int .i64 k.ep, .bool k.mj, .slice v'.a v'.n v'.c, .bool o, .int .i64 k.pa, .int .i64 k.pf, .int .i64 k.ps, .int .i64 k.pc, .bool k.me] 30)))
  have hc2 : CBox ((w.alloc (.cells #[.int .i64 k.ph, .int .i64 k.ep, .bool k.mj, .slice v.a v.n v.c, .bool o, .int .i64 k.pa, .int .i64 k.pf, .int .i64 k.ps, .int .i64 k.pc, .bool k.me] 30)).alloc (.cells #[.int .i64 k.ph, .int .i64 k.ep, .bool k.mj, .slice v'.a v'.n v'.c, .bool o, .int .i64 k.pa, .int .i64 k.pf, .int .i64 k.ps, .int .i64 k.pc, .bool k.me] 30)) (w.heap.size + 1) ⟨k.ph, k.ep, k.mj, v', o, k.pa, k.pf, k.ps, k.pc, k.me⟩ := by
    have := CBox.new (w.alloc (.cells #[.int .i64 k.ph, .int .i64 k.ep, .bool k.mj, .slice v.a v.n v.c, .bool o, .int .i64 k.pa, .int .i64 k.pf, .int .i64 k.ps, .int .i64 k.pc, .bool k.me] 30)) ⟨k.ph, k.ep, k.mj, v', o, k.pa, k.pf, k.ps, k.pc, k.me⟩ 30
    rwa [World.size_alloc] at this
  have C2 := Lib.hid hc2
  obtain ⟨ph, ep, mj, wk, ov, pa, pf, ps, pc, me⟩ := k
  clear hr hs hc1 hc2 hn
  go_enter Tryz.func16, Tryz.ntmps16
  go_wp2_with fail
  refine (Ls.ints_tell w.heap.size w.heap.size v.a v'.a v.n v'.n v.c v'.c xs xs _ h1 h2 (HR.out.below B0.out) (HS.out.below B0.out)).mono ?_
  rw [decide_eq_true rfl]
  rintro e w1 ⟨rfl, hb1⟩
  have HE := Lib.hid (B0.out.trans (hb1.mono B0.out.size))
  have D1 := Lib.hid (C1.out.next hb1)
  have D2 := Lib.hid (C2.out.next hb1)
  have e1 : (ph == ph) = true := beq_self_eq_true _
  have e2 : (ep == ep) = true := beq_self_eq_true _
  have e3 : (mj == mj) = true := beq_self_eq_true _
  have e4 : (o == o) = true := beq_self_eq_true _
  have e5 : (pa == pa) = true := beq_self_eq_true _
  have e6 : (pf == pf) = true := beq_self_eq_true _
  have e7 : (ps == ps) = true := beq_self_eq_true _
  have e8 : (pc == pc) = true := beq_self_eq_true _
  have e9 : (me == me) = true := beq_self_eq_true _
  have p0 := (D1.out).c0
  have p1 := (D1.out).c1
  have p2 := (D1.out).c2
  have p3 := (D1.out).c3
  have p4 := (D1.out).c4
  have p5 := (D1.out).c5
  have p6 := (D1.out).c6
  have p7 := (D1.out).c7
  have p8 := (D1.out).c8
  have p9 := (D1.out).c9
  have pl := (D1.out).lt
  have q0 := (D2.out).c0
  have q1 := (D2.out).c1
  have q2 := (D2.out).c2
  have q3 := (D2.out).c3
  have q4 := (D2.out).c4
  have q5 := (D2.out).c5
  have q6 := (D2.out).c6
  have q7 := (D2.out).c7
  have q8 := (D2.out).c8
  have q9 := (D2.out).c9
  have ql := (D2.out).lt
  dsimp only at p0 p1 p2 p3 p4 p5 p6 p7 p8 p9 q0 q1 q2 q3 q4 q5 q6 q7 q8 q9
  clear hb1
  go_wp2
  go_ret
  exact ⟨rfl, HE.out⟩
end Go.Proofs.YtfjhhfncapmnmaaGreatDoor.Sh
end
section
namespace Go.Proofs.YtfjhhfncapmnmaaGreatDoor.Sh
open Go.Proofs.YtfjhhfncapmnmaaGreatDoor
open Go.RowKit
set_option maxRecDepth 100000

section
variable (s : Hs) (d : Hd_) (k : Ks) (xs g : List Int) (w : World)
end
end Go.Proofs.YtfjhhfncapmnmaaGreatDoor.Sh
end
section
namespace Go.Proofs.YtfjhhfncapmnmaaGreatDoor.Cl
open Go.Proofs.YtfjhhfncapmnmaaGreatDoor
set_option maxRecDepth 100000
open Go.RowKit

set_option maxHeartbeats 1000000 in
theorem same_yes (B B' : Nat) (A A' : Option Addr) (n c c' : Nat) (f g : Nat → Int × Int) (w : World) (hn : n ≤ 1000) (he : ∀ i, i < n → g i = f i) (hr : PRow w B A n f) (hr' : PRow w B' A' n g) (hB : B ≤ w.heap.size) (hB' : B' ≤ w.heap.size) :
    Calls Tryz.prog 48 #[.slice A n c, .slice A' n c'] w fun e w' => e = .returned (.bool true) ∧ Below w.heap.size w w' := by
  have HR := Lib.hid hr
  have HR' := Lib.hid (hr'.congr (fun i hi => (he i hi).symm))
  clear hr hr' he
  go_enter Tryz.func48, Tryz.ntmps48
  go_wp2
  go_loopw [5] (fun i wr => ∃ k : Nat, k ≤ n ∧ i = .int .i64 k ∧ Below w.heap.size w wr) (fun i _ => n - (intOf i).toNat)
  case atStart => exact ⟨0, Nat.zero_le _, rfl, Below.refl _ _⟩
  case round =>
    obtain ⟨k, hk, rfl, hb⟩ := hrel
    by_cases hlt : k < n
    · obtain ⟨b, off, rfl, hbB, hc⟩ := (HR.out.over hb hB) (by omega)
      obtain ⟨p0, p1⟩ := hc k hlt
      obtain ⟨b', off', rfl, hbB', hc'⟩ := (HR'.out.over hb hB') (by omega)
      obtain ⟨q0, q1⟩ := hc' k hlt
      have HB := Lib.hid hb
      have hz := hb.size
      have HQ := pneq_no (a := (f k).1) (b := (f k).2) ⟨rfl, rfl⟩
      clear hb hc hc'
      go_wp2
      go_quiet (fail)
      go_wp2
      go_roundw
      case rel => exact ⟨k + 1, by omega, by go_num, below_drewN HB.out _⟩
      case measure => simp [intOf]; omega
    · go_wp2
      go_ret
      exact ⟨rfl, hb⟩
end Go.Proofs.YtfjhhfncapmnmaaGreatDoor.Cl
end
section
namespace Go.Proofs.YtfjhhfncapmnmaaGreatDoor
open Go.RowKit
set_option maxRecDepth 100000

/-- Two heaps' boxes. -/
structure Two (w W : World) (s t : Hs) (d d2 : Hd_) : Prop where
  bel : Below w.heap.size w W
  b1 : HBox W w.heap.size s
  b2 : HBox W (w.heap.size + 1) t
  h1 : Hp W W.heap.size s d
  h2 : Hp W W.heap.size t d2
theorem Two.next {w W W' : World} {s t : Hs} {d d2 : Hd_} (h : Two w W s t d d2) (hb : Below W.heap.size W W') : Two w W' s t d d2 := ⟨h.bel.trans (hb.mono h.bel.size), h.b1.next hb, h.b2.next hb, h.h1.next hb, h.h2.next hb⟩
theorem two_start {w W : World} {s t : Hs} {d d2 : Hd_} (hp : Hp w w.heap.size s d) (ht : Hp w w.heap.size t d2) (h : W = (w.alloc (.cells #[.slice s.w.a s.w.n s.w.c, .slice s.p.a s.p.n s.p.c, .slice (s.u 0).a (s.u 0).n (s.u 0).c, .slice (s.u 1).a (s.u 1).n (s.u 1).c, .slice (s.u 2).a (s.u 2).n (s.u 2).c, .slice s.c.a s.c.n s.c.c] 28)).alloc (.cells #[.slice t.w.a t.w.n t.w.c, .slice t.p.a t.p.n t.p.c, .slice (t.u 0).a (t.u 0).n (t.u 0).c, .slice (t.u 1).a (t.u 1).n (t.u 1).c, .slice (t.u 2).a (t.u 2).n (t.u 2).c, .slice t.c.a t.c.n t.c.c] 28)) : Two w W s t d d2 := by
  have hb : Below w.heap.size w W := by rw [h]; exact ((Below.refl _ _).alloc (Nat.le_refl _) _).alloc (by simp) _
  have bx : Below (w.alloc (.cells #[.slice s.w.a s.w.n s.w.c, .slice s.p.a s.p.n s.p.c, .slice (s.u 0).a (s.u 0).n (s.u 0).c, .slice (s.u 1).a (s.u 1).n (s.u 1).c, .slice (s.u 2).a (s.u 2).n (s.u 2).c, .slice s.c.a s.c.n s.c.c] 28)).heap.size (w.alloc (.cells #[.slice s.w.a s.w.n s.w.c, .slice s.p.a s.p.n s.p.c, .slice (s.u 0).a (s.u 0).n (s.u 0).c, .slice (s.u 1).a (s.u 1).n (s.u 1).c, .slice (s.u 2).a (s.u 2).n (s.u 2).c, .slice s.c.a s.c.n s.c.c] 28)) W := by rw [h]; exact (Below.refl _ _).alloc (Nat.le_refl _) _
  have z := HBox.new (w.alloc (.cells #[.slice s.w.a s.w.n s.w.c, .slice s.p.a s.p.n s.p.c, .slice (s.u 0).a (s.u 0).n (s.u 0).c, .slice (s.u 1).a (s.u 1).n (s.u 1).c, .slice (s.u 2).a (s.u 2).n (s.u 2).c, .slice s.c.a s.c.n s.c.c] 28)) t 28
  rw [World.size_alloc] at z
  exact ⟨hb, (HBox.new w s 28).next bx, by rw [h]; exact z, hp.next hb, ht.next hb⟩
set_option maxHeartbeats 1000000 in
theorem rsame_yes (s : Hs) (d d2 : Hd_) (A1 A2 A3 : Option Addr) (C1 C2 C3 : Nat) (v : Nat → Ls.Sl) (w : World) (hp : Hp w w.heap.size s d) (ht : Hp w w.heap.size ⟨⟨A1, s.w.n, C1⟩, ⟨A2, s.p.n, C2⟩, v, ⟨A3, s.c.n, C3⟩⟩ d2) (e1 : d2.ws = d.ws) (e2 : ∀ i, i < s.p.n → d2.f i = d.f i) (e3 : ∀ j, j < 3 → d.F j = d2.F j) (e4 : ∀ i, i < s.c.n → d2.cs i = d.cs i)
    (hwn : s.w.n ≤ 4000) (hpn : s.p.n ≤ 1000) (hcn : s.c.n ≤ 100000) (hun : ∀ j, j < 3 → (s.u j).n ≤ 4000000) (hvn : ∀ j, j < 3 → (v j).n ≤ 4000000) :
    Calls Tryz.prog 15 #[(.agg #[.slice s.w.a s.w.n s.w.c, .slice s.p.a s.p.n s.p.c, .slice (s.u 0).a (s.u 0).n (s.u 0).c, .slice (s.u 1).a (s.u 1).n (s.u 1).c, .slice (s.u 2).a (s.u 2).n (s.u 2).c, .slice s.c.a s.c.n s.c.c]), (.agg #[.slice A1 s.w.n C1, .slice A2 s.p.n C2, .slice (v 0).a (v 0).n (v 0).c, .slice (v 1).a (v 1).n (v 1).c, .slice (v 2).a (v 2).n (v 2).c, .slice A3 s.c.n C3])] w fun e w' => e = .returned (.bool true) ∧ Below w.heap.size w w' := by
  have HP := Lib.hid hp
  have HT := Lib.hid ht
  have E1 := Lib.hid e1
  have E2 := Lib.hid e2
  have E3 := Lib.hid e3
  have E4 := Lib.hid e4
  have HUN := Lib.hid hun
  have HVN := Lib.hid hvn
  clear hp ht e1 e2 e3 e4 hun hvn
  go_enter Tryz.func15, Tryz.ntmps15
  go_wp2_with fail
  obtain ⟨W1, hW1⟩ : ∃ W1, W1 = (w.alloc (.cells #[.slice s.w.a s.w.n s.w.c, .slice s.p.a s.p.n s.p.c, .slice (s.u 0).a (s.u 0).n (s.u 0).c, .slice (s.u 1).a (s.u 1).n (s.u 1).c, .slice (s.u 2).a (s.u 2).n (s.u 2).c, .slice s.c.a s.c.n s.c.c] 28)).alloc (.cells #[.slice A1 s.w.n C1, .slice A2 s.p.n C2, .slice (v 0).a (v 0).n (v 0).c, .slice (v 1).a (v 1).n (v 1).c, .slice (v 2).a (v 2).n (v 2).c, .slice A3 s.c.n C3] 28) := ⟨_, rfl⟩
  have S1 := Lib.hid (two_start HP.out HT.out hW1)
  rw [← hW1]
  clear hW1
  refine (Ls.ints_tell W1.heap.size W1.heap.size s.w.a A1 s.w.n s.w.n s.w.c C1 d.ws d2.ws W1 (by omega) (by omega) S1.out.h1.words S1.out.h2.words).mono ?_
  rw [decide_eq_true E1.out.symm]
  rintro e9 w2 ⟨rfl, hb2⟩
  have S2 := Lib.hid (S1.out.next hb2)
  clear hb2 S1
  have q1 := S2.out.b1.c1
  have ql := S2.out.b1.lt
  have r1 := S2.out.b2.c1
  have rl := S2.out.b2.lt
  go_wp2_with fail
  refine (Cl.same_yes w2.heap.size w2.heap.size s.p.a A2 s.p.n s.p.c C2 d.f d2.f w2 hpn E2.out S2.out.h1.pages S2.out.h2.pages (Nat.le_refl _) (Nat.le_refl _)).mono ?_
  rintro e9 w3 ⟨rfl, hb3⟩
  have S3 := Lib.hid (S2.out.next hb3)
  clear hb3 S2 q1 ql r1 rl
  have q2 := S3.out.b1.c2
  have q3 := S3.out.b1.c3
  have q4 := S3.out.b1.c4
  have ql := S3.out.b1.lt
  have r2 := S3.out.b2.c2
  have r3 := S3.out.b2.c3
  have r4 := S3.out.b2.c4
  have rl := S3.out.b2.lt
  go_wp2_with fail
  refine (Ls.same_any w3.heap.size w3.heap.size s.u v d.F d2.F w3 S3.out.h1.free (Nat.le_refl _) S3.out.h2.free (Nat.le_refl _) HUN.out HVN.out).mono ?_
  rw [decide_eq_true (show Ls.sameUp d.F d2.F 3 from E3.out)]
  rintro e9 w4 ⟨rfl, hb4⟩
  have S4 := Lib.hid (S3.out.next hb4)
  clear hb4 S3 q2 q3 q4 ql r2 r3 r4 rl
  have q5 := S4.out.b1.c5
  have ql := S4.out.b1.lt
  have r5 := S4.out.b2.c5
  have rl := S4.out.b2.lt
  have dn : ((s.c.n : Int) != s.c.n) = false := by simp
  go_wp2
  go_loopw [8] (fun i wr => ∃ k : Nat, k ≤ s.c.n ∧ i = .int .i64 k ∧ Hid (Two w wr s ⟨⟨A1, s.w.n, C1⟩, ⟨A2, s.p.n, C2⟩, v, ⟨A3, s.c.n, C3⟩⟩ d d2)) (fun i _ => s.c.n - (intOf i).toNat)
  case atStart => exact ⟨0, Nat.zero_le _, rfl, S4⟩
  case round =>
    obtain ⟨k, hk, rfl, HR⟩ := hrel
    clear S4 q5 ql r5 rl
    have q5 := HR.out.b1.c5
    have ql := HR.out.b1.lt
    have r5 := HR.out.b2.c5
    have rl := HR.out.b2.lt
    by_cases hlt : k < s.c.n
    · have dq : decide ((k : Int) < s.c.n) = true := by simp; omega
      have ik0 : (0 : Int) ≤ k := by omega
      have ik1 : (k : Int) < s.c.n := by omega
      obtain ⟨b, off, ea, hbl, hc⟩ := HR.out.h1.cards (by omega)
      obtain ⟨b', off', ea', hbl', hc'⟩ := HR.out.h2.cards (show 0 < s.c.n by omega)
      have c1 := hc k hlt
      have c2 := hc' k hlt
      dsimp only at c2 ea' r5
      rw [E4.out k hlt] at c2
      rw [ea] at q5
      rw [ea'] at r5
      generalize d.cs k = x at c1 c2
      have dx : (x != x) = false := by simp
      clear hc hc' ea ea'
      go_wp2
      go_quiet (fail)
      have HR2 : Hid (Two w (wr.drewN nq) s ⟨⟨A1, s.w.n, C1⟩, ⟨A2, s.p.n, C2⟩, v, ⟨A3, s.c.n, C3⟩⟩ d d2) := Lib.hid (HR.out.next (below_drawn' (Below.refl _ _) nq))
      go_wp2
      go_roundw
      case rel => exact ⟨k + 1, by omega, by go_num, HR2⟩
      case measure => simp [intOf]; omega
    · have dq : decide ((k : Int) < s.c.n) = false := by simp; omega
      go_wp2
      go_ret
      exact ⟨rfl, HR.out.bel⟩
end Go.Proofs.YtfjhhfncapmnmaaGreatDoor
end
section
namespace Go.Proofs.YtfjhhfncapmnmaaGreatDoor.Sh
open Go.Proofs.YtfjhhfncapmnmaaGreatDoor
open Go.RowKit
set_option maxRecDepth 100000

theorem hsame_yes (t s : Hs) (d : Hd_) (w : World) (hl : Lens s t) (hp : Hp w w.heap.size s d) (ht : Hp w w.heap.size t d) (hf : Fine s d) : Calls Tryz.prog 15 #[(.agg #[.slice t.w.a t.w.n t.w.c, .slice t.p.a t.p.n t.p.c, .slice (t.u 0).a (t.u 0).n (t.u 0).c, .slice (t.u 1).a (t.u 1).n (t.u 1).c, .slice (t.u 2).a (t.u 2).n (t.u 2).c, .slice t.c.a t.c.n t.c.c]), (.agg #[.slice s.w.a s.w.n s.w.c, .slice s.p.a s.p.n s.p.c, .slice (s.u 0).a (s.u 0).n (s.u 0).c, .slice (s.u 1).a (s.u 1).n (s.u 1).c, .slice (s.u 2).a (s.u 2).n (s.u 2).c, .slice s.c.a s.c.n s.c.c])] w fun e w' => e = .returned (.bool true) ∧ Below w.heap.size w w' := by
  have hu : ∀ j, j < 3 → (d.F j).length ≤ 4000000 := fun j hj => by
    have h1 := hf.len
    rw [upTo3] at h1
    rcases (show j = 0 ∨ j = 1 ∨ j = 2 by omega) with rfl | rfl | rfl <;> omega
  have hsn := fun j (hj : j < 3) => Nat.le_trans (Nat.le_of_eq (hp.free.len j hj)) (hu j hj)
  have htn := fun j (hj : j < 3) => Nat.le_trans (Nat.le_of_eq (ht.free.len j hj)) (hu j hj)
  obtain ⟨⟨a1, n1, c1⟩, ⟨a2, n2, c2⟩, su, ⟨a3, n3, c3⟩⟩ := s
  obtain ⟨⟨b1, m1, e1⟩, ⟨b2, m2, e2⟩, tu, ⟨b3, m3, e3⟩⟩ := t
  obtain ⟨l1, l2, l3, l4⟩ := hl
  dsimp only at l1 l2 l3 l4
  subst l1 l2 l4
  have h1 := hf.wn
  have h2 := hf.pn
  have h3 := hf.cn
  dsimp only at h1 h2 h3
  exact rsame_yes ⟨⟨b1, m1, e1⟩, ⟨b2, m2, e2⟩, tu, ⟨b3, m3, e3⟩⟩ d d a1 a2 a3 c1 c2 c3 su w ht hp rfl (fun _ _ => rfl) (fun _ _ => rfl) (fun _ _ => rfl) h1 (by show m2 ≤ 1000; omega) h3 htn hsn
section
variable {w w3 w9 W W' : World} {s t : Hs} {d d' : Hd_} {k k' : Ks} {xs ys : List Int} {hs : List (Nat × Hs × Hd_)} {ks : List (Nat × Ks × List Int)} {b c : Nat} {v : Ls.Sl} {o : Bool}
end
end Go.Proofs.YtfjhhfncapmnmaaGreatDoor.Sh
end
section
namespace Go.Proofs.YtfjhhfncapmnmaaGreatDoor.Mu
open Go.Proofs.YtfjhhfncapmnmaaGreatDoor Go.Proofs.YtfjhhfncapmnmaaGreatDoor.Rt
open Go.RowKit
set_option maxRecDepth 100000

structure Lb (w W : World) (bs : List (Nat × List Value)) (ps : List St) : Prop where
  bel : Below w.heap.size w W
  box : ∀ x ∈ bs, Box W x.1 x.2
  hold : ∀ x ∈ ps, Hold W x
section
variable {w W W' : World} {bs : List (Nat × List Value)} {ps : List St} {P : St} {b : Nat} {vs : List Value}
theorem Lb.next (h : Lb w W bs ps) (hb : Below W.heap.size W W') : Lb w W' bs ps := ⟨h.bel.trans (hb.mono h.bel.size), fun x hx => (h.box x hx).next hb, fun x hx => (h.hold x hx).next hb⟩
theorem Lb.bx (h : Lb w W bs ps) (b : Nat) (vs : List Value) (hm : (b, vs) ∈ bs) : Box W b vs := h.box _ hm
theorem Lb.at (h : Lb w W bs ps) (P : St) (hm : P ∈ ps) : Hold W P := h.hold _ hm
theorem Lb.lay (h : Lb w W bs ps) (vs : List Value) (ty : TypeId) : Lb w (W.alloc (.cells vs.toArray ty)) ((W.heap.size, vs) :: bs) ps := by
  have n := h.next ((Below.refl W.heap.size W).alloc (Nat.le_refl _) (.cells vs.toArray ty))
  exact ⟨n.bel, fun x hx => (by
    rcases List.mem_cons.1 hx with rfl | hx
    · exact Box.new W vs ty
    · exact n.box x hx), n.hold⟩
theorem Lb.held (h : Lb w W bs ps) (hP : Hold W P) : Lb w W bs (P :: ps) := ⟨h.bel, h.box, fun x hx => (by
    rcases List.mem_cons.1 hx with rfl | hx
    · exact hP
    · exact h.hold x hx)⟩
theorem Lb.over (h : Lb w W bs ps) (hz : Cl.Sz w) : Cl.Sz W := hz.over h.bel hz.pos
theorem lb_start (hh : Hold w P) : Lb w w [] [P] := ⟨Below.refl _ _, fun x hx => (by cases hx), fun x hx => (by
  rcases List.mem_singleton.1 hx with rfl
  exact hh)⟩
end
section
variable {W W0 : World} {ops : Array Oper} {rest : List Oper} {o : Oper} {a : Act} {Q : Exit → Act → World → Prop}
theorem w_loadg {x : Operand} {ty : TypeId} {p v : Value} (hr : (Instr.loadAt ty p).run Tryz.prog W0 = .ok v W0) (hw : W = W0) (hgd : Region.wanted o (yielded ops a.tmps) = true) (ho : o.op = .load ty x) (hx : a.eval x = p) (hK : wpList Tryz.prog ops Q rest (a.put o.dst v) W) : wpList Tryz.prog ops Q (o :: rest) a W := by
  subst hw
  refine wpList_step fun K hK' => ?_
  rw [if_pos hgd]
  unfold Oper.wp execOp
  simp only [ho, hx, Sem.run_bind, hr, Result.andThen_ok]
  exact hK' _ _ hK
end
/-- Not too great. -/
def fewA (s : Hs) (k : Sh.Ks) (t : Ts) : Bool := fewH s && (decide (k.wk.n ≤ 100) && fewT t)
def boxes3 (b : Nat) (s : Hs) (k : Sh.Ks) (t : Ts) : List (Nat × List Value) := [(b + 2, tv t), (b + 1, kv k), (b, hv s)]
theorem lb_three {w W : World} {s : Hs} {k : Sh.Ks} {t : Ts} {P : St} {t1 t2 t3 : TypeId} (hh : Hold w P) (h : W = ((w.alloc (.cells (hv s).toArray t1)).alloc (.cells (kv k).toArray t2)).alloc (.cells (tv t).toArray t3)) : Lb w W (boxes3 w.heap.size s k t) [P] := by
  have l := (((lb_start hh).lay (hv s) t1).lay (kv k) t2).lay (tv t) t3
  rw [World.size_alloc, World.size_alloc] at l
  rw [h]
  exact l
theorem few_core (s : Hs) (k : Sh.Ks) (t : Ts) (P : St) (w : World) (b1 b2 b3 : Bool) (h1 : fewH s = b1) (h2 : decide (k.wk.n ≤ 100) = b2) (h3 : fewT t = b3) (hh : Hold w P) : Calls Tryz.prog 11 #[(.agg #[.slice s.w.a s.w.n s.w.c, .slice s.p.a s.p.n s.p.c, .slice (s.u 0).a (s.u 0).n (s.u 0).c, .slice (s.u 1).a (s.u 1).n (s.u 1).c, .slice (s.u 2).a (s.u 2).n (s.u 2).c, .slice s.c.a s.c.n s.c.c]), (.agg #[.int .i64 k.ph, .int .i64 k.ep, .bool k.mj, .slice k.wk.a k.wk.n k.wk.c, .bool k.ov, .int .i64 k.pa, .int .i64 k.pf, .int .i64 k.ps, .int .i64 k.pc, .bool k.me]), (.agg #[.bool t.lv, .int .i64 (t.r 0), .int .i64 (t.r 1), .int .i64 (t.r 2), .int .i64 (t.r 3), .slice (t.u 0).a (t.u 0).n (t.u 0).c, .slice (t.u 1).a (t.u 1).n (t.u 1).c, .slice (t.u 2).a (t.u 2).n (t.u 2).c, .int .i64 t.ep, .int .i64 t.sg, .int .i64 t.rt, .slice t.o.a t.o.n t.o.c, .int .i64 t.pc, .int .i64 t.x, .int .i64 t.y])] w fun e w' => e = .returned (.bool (b1 && (b2 && b3))) ∧ Below w.heap.size w w' := by
  have C1 := Lib.hid (fun W => Go.Proofs.YtfjhhfncapmnmaaGreatDoor.rfew_any s W)
  have C3 := Lib.hid (fun W => Rt.rfew_any t W)
  have g2 : decide ((k.wk.n : Int) ≤ 100) = b2 := by rw [← h2]; exact decide_eq_decide.2 (by omega)
  rw [h1] at C1
  rw [h3] at C3
  have HH := Lib.hid hh
  clear h1 h3 hh
  go_enter Tryz.func11, Tryz.ntmps11
  go_upto_region 1 with fail
  obtain ⟨W1, hW1⟩ : ∃ W1, W1 = ((w.alloc (.cells #[.slice s.w.a s.w.n s.w.c, .slice s.p.a s.p.n s.p.c, .slice (s.u 0).a (s.u 0).n (s.u 0).c, .slice (s.u 1).a (s.u 1).n (s.u 1).c, .slice (s.u 2).a (s.u 2).n (s.u 2).c, .slice s.c.a s.c.n s.c.c] 28)).alloc (.cells #[.int .i64 k.ph, .int .i64 k.ep, .bool k.mj, .slice k.wk.a k.wk.n k.wk.c, .bool k.ov, .int .i64 k.pa, .int .i64 k.pf, .int .i64 k.ps, .int .i64 k.pc, .bool k.me] 30)).alloc (.cells #[.bool t.lv, .int .i64 (t.r 0), .int .i64 (t.r 1), .int .i64 (t.r 2), .int .i64 (t.r 3), .slice (t.u 0).a (t.u 0).n (t.u 0).c, .slice (t.u 1).a (t.u 1).n (t.u 1).c, .slice (t.u 2).a (t.u 2).n (t.u 2).c, .int .i64 t.ep, .int .i64 t.sg, .int .i64 t.rt, .slice t.o.a t.o.n t.o.c, .int .i64 t.pc, .int .i64 t.x, .int .i64 t.y] 34) := ⟨_, rfl⟩
  have L1 := Lib.hid (lb_three (s := s) (k := k) (t := t) HH.out hW1)
  rw [← hW1]
  clear hW1
  go_wp2_with (refine w_load (ldHb (L1.out.bx w.heap.size (hv s) (by simp [boxes3]))) rfl rfl rfl rfl ?_)
  refine (C1.out W1).mono ?_
  rintro e9 w2 ⟨rfl, hb2⟩
  have L2 := Lib.hid (L1.out.next hb2)
  clear hb2 L1
  have q3 := (L2.out.bx (w.heap.size + 1) (kv k) (by simp [boxes3])).cel 3 (.slice k.wk.a k.wk.n k.wk.c) rfl
  cases b1 with
  | false =>
    go_wp2
    go_ret
    exact ⟨rfl, L2.out.bel⟩
  | true =>
    cases b2 with
    | false =>
      go_wp2
      go_ret
      exact ⟨rfl, L2.out.bel⟩
    | true =>
      go_wp2_with (refine w_loadg (ldTb (L2.out.bx (w.heap.size + 2) (tv t) (by simp [boxes3]))) rfl (by kernel_rfl) rfl rfl ?_)
      refine (C3.out w2).mono ?_
      rintro e9 w3 ⟨rfl, hb3⟩
      have L3 := Lib.hid (L2.out.next hb3)
      clear hb3 L2 q3
      go_wp2
      go_ret
      exact ⟨rfl, L3.out.bel⟩
theorem few_any (s : Hs) (k : Sh.Ks) (t : Ts) (P : St) (w : World) (hh : Hold w P) : Calls Tryz.prog 11 #[(.agg #[.slice s.w.a s.w.n s.w.c, .slice s.p.a s.p.n s.p.c, .slice (s.u 0).a (s.u 0).n (s.u 0).c, .slice (s.u 1).a (s.u 1).n (s.u 1).c, .slice (s.u 2).a (s.u 2).n (s.u 2).c, .slice s.c.a s.c.n s.c.c]), (.agg #[.int .i64 k.ph, .int .i64 k.ep, .bool k.mj, .slice k.wk.a k.wk.n k.wk.c, .bool k.ov, .int .i64 k.pa, .int .i64 k.pf, .int .i64 k.ps, .int .i64 k.pc, .bool k.me]), (.agg #[.bool t.lv, .int .i64 (t.r 0), .int .i64 (t.r 1), .int .i64 (t.r 2), .int .i64 (t.r 3), .slice (t.u 0).a (t.u 0).n (t.u 0).c, .slice (t.u 1).a (t.u 1).n (t.u 1).c, .slice (t.u 2).a (t.u 2).n (t.u 2).c, .int .i64 t.ep, .int .i64 t.sg, .int .i64 t.rt, .slice t.o.a t.o.n t.o.c, .int .i64 t.pc, .int .i64 t.x, .int .i64 t.y])] w fun e w' => e = .returned (.bool (fewA s k t)) ∧ Below w.heap.size w w' := few_core s k t P w _ _ _ rfl rfl rfl hh
theorem fewA_len {s : Hs} {k : Sh.Ks} {t : Ts} (h : fewA s k t = true) : k.wk.n ≤ 100 ∧ (t.o.n ≤ 220 ∧ ∀ j, j < 3 → (t.u j).n ≤ 70) ∧ fewH s = true := by
  unfold fewA at h
  simp only [Bool.and_eq_true, decide_eq_true_eq] at h
  have h2 := h.2.2
  unfold fewT at h2
  simp only [Bool.and_eq_true, decide_eq_true_eq] at h2
  refine ⟨h.2.1, ⟨h2.1, fun j hj => ?_⟩, h.1⟩
  match j, hj with
  | 0, _ => exact h2.2.1
  | 1, _ => exact h2.2.2.1
  | 2, _ => exact h2.2.2.2
/-- What few bounds, once and for all. -/
theorem few_in {w : World} {s : Hs} {k : Sh.Ks} {t : Ts} {d : Hd_} {xs : List Int} {F : Nat → List Int} {g : Nat → O4} (h : fewA s k t = true) (hz : Cl.Sz w) (hp : Hp w w.heap.size s d) (hv : ∀ i, -9223372036854775808 ≤ d.ws.getD i 0 ∧ d.ws.getD i 0 ≤ 9223372036854775807) (hk : Sh.WRow w w.heap.size k xs) (ht : Th w w.heap.size t F g) :
    FineT s d t.u F ∧ ∀ W n, Hold W ⟨⟨s, k, t, n, o0, 0, 0, false⟩, d, xs, F, g⟩ → Below w.heap.size w W → In W s k t d xs F g := by
  obtain ⟨h1, ⟨h2, h3⟩, h4⟩ := fewA_len h
  have hf := fine_few h4 hp hv
  have hT : FineT s d t.u F := by
    refine ⟨hf, fun j hj => ?_, fun j hj => by have := h3 j hj; omega, ?_⟩
    · have h5 := of_decide_eq_true (few_parts h4).2.2.2
      match j, hj with
      | 0, _ => have := h5.1; omega
      | 1, _ => have := h5.2.1; omega
      | 2, _ => have := h5.2.2; omega
    · rw [ahead_len]
      have h5 := light_len (few_parts h4).2.2.2 hp.free
      have h6 : (Ls.upTo F 3).length ≤ 210 := light_len (u := t.u) (decide_eq_true ⟨h3 0 (by decide), h3 1 (by decide), h3 2 (by decide)⟩) ht.c
      have h7 : (Ls.allOf (fun _ => F) 1).length = (Ls.upTo F 3).length := by simp [Ls.allOf]
      omega
  refine ⟨hT, fun W n hh hb => ⟨hh.h, hh.c, hh.t, hz.over hb hz.pos, hT, fun j hj => by have := h3 j hj; omega, by omega, ?_⟩⟩
  have := hk.1
  omega
theorem lens_of {W : World} {s : Hs} {n : Tn} {d : Hd_} {xs : List Int} {F : Nat → List Int} {g : Nat → O4} {B : Nat} {w : World} (hp : Hp w B s d) (hh : Hold W ⟨n, d, xs, F, g⟩) (h1 : n.s.w.n = s.w.n) (h2 : n.s.p.n = s.p.n) (h3 : n.s.c.n = s.c.n) : Lens s n.s :=
  ⟨h1, h2, fun j hj => by rw [hh.h.free.len j hj, hp.free.len j hj], h3⟩
/-- What a step of one of the four tells; what is told of none. -/
def RdOut (w : World) (s : Hs) (k : Sh.Ks) (t : Ts) (d : Hd_) (xs : List Int) (g : Nat → O4) (e : Ending) (w' : World) : Prop :=
  ∃ n F' g', e = .returned (.tuple #[(.agg #[.slice n.s.w.a n.s.w.n n.s.w.c, .slice n.s.p.a n.s.p.n n.s.p.c, .slice (n.s.u 0).a (n.s.u 0).n (n.s.u 0).c, .slice (n.s.u 1).a (n.s.u 1).n (n.s.u 1).c, .slice (n.s.u 2).a (n.s.u 2).n (n.s.u 2).c, .slice n.s.c.a n.s.c.n n.s.c.c]), (.agg #[.int .i64 n.k.ph, .int .i64 n.k.ep, .bool n.k.mj, .slice n.k.wk.a n.k.wk.n n.k.wk.c, .bool n.k.ov, .int .i64 n.k.pa, .int .i64 n.k.pf, .int .i64 n.k.ps, .int .i64 n.k.pc, .bool n.k.me]), (.agg #[.bool n.t.lv, .int .i64 (n.t.r 0), .int .i64 (n.t.r 1), .int .i64 (n.t.r 2), .int .i64 (n.t.r 3), .slice (n.t.u 0).a (n.t.u 0).n (n.t.u 0).c, .slice (n.t.u 1).a (n.t.u 1).n (n.t.u 1).c, .slice (n.t.u 2).a (n.t.u 2).n (n.t.u 2).c, .int .i64 n.t.ep, .int .i64 n.t.sg, .int .i64 n.t.rt, .slice n.t.o.a n.t.o.n n.t.o.c, .int .i64 n.t.pc, .int .i64 n.t.x, .int .i64 n.t.y]), .agg #[.int .i64 0, .int .i64 n.q.k, .int .i64 n.q.a, .int .i64 n.q.b, .int .i64 n.q.c, .int .i64 n.e, .int .i64 n.v], .bool true]) ∧ Hold w' ⟨n, d, xs, F', g'⟩ ∧ Lens s n.s ∧ n.k = Sh.kw k n.k.wk k.ov ∧ (n.q = g 0 ∧ n.t.pc = 0 ∧ n.t.x = 0 ∧ n.t.y = 0 ∧ n.t.lv = t.lv ∧ n.t.o.n = t.o.n - 1) ∧ Below w.heap.size w w'
def NoOut (w : World) (s : Hs) (k : Sh.Ks) (t : Ts) (d : Hd_) (xs : List Int) (F : Nat → List Int) (g : Nat → O4) (e : Ending) (w' : World) : Prop :=
  ∃ n : Tn, e = .returned (.tuple #[(.agg #[.slice n.s.w.a n.s.w.n n.s.w.c, .slice n.s.p.a n.s.p.n n.s.p.c, .slice (n.s.u 0).a (n.s.u 0).n (n.s.u 0).c, .slice (n.s.u 1).a (n.s.u 1).n (n.s.u 1).c, .slice (n.s.u 2).a (n.s.u 2).n (n.s.u 2).c, .slice n.s.c.a n.s.c.n n.s.c.c]), (.agg #[.int .i64 n.k.ph, .int .i64 n.k.ep, .bool n.k.mj, .slice n.k.wk.a n.k.wk.n n.k.wk.c, .bool n.k.ov, .int .i64 n.k.pa, .int .i64 n.k.pf, .int .i64 n.k.ps, .int .i64 n.k.pc, .bool n.k.me]), (.agg #[.bool n.t.lv, .int .i64 (n.t.r 0), .int .i64 (n.t.r 1), .int .i64 (n.t.r 2), .int .i64 (n.t.r 3), .slice (n.t.u 0).a (n.t.u 0).n (n.t.u 0).c, .slice (n.t.u 1).a (n.t.u 1).n (n.t.u 1).c, .slice (n.t.u 2).a (n.t.u 2).n (n.t.u 2).c, .int .i64 n.t.ep, .int .i64 n.t.sg, .int .i64 n.t.rt, .slice n.t.o.a n.t.o.n n.t.o.c, .int .i64 n.t.pc, .int .i64 n.t.x, .int .i64 n.t.y]), .agg #[.int .i64 0, .int .i64 n.q.k, .int .i64 n.q.a, .int .i64 n.q.b, .int .i64 n.q.c, .int .i64 n.e, .int .i64 n.v], .bool false]) ∧ Hold w' ⟨n, d, xs, F, g⟩ ∧ Lens s n.s ∧ n.k = Sh.kw k n.k.wk k.ov ∧ (n.t = tw t n.t.u n.t.o ∧ n.t.o.n = t.o.n) ∧ Below w.heap.size w w'
theorem kw_eq {n : Tn} {k k' : Sh.Ks} (h : n.k = Sh.kw k' n.k.wk k'.ov) (e : k' = k) : n.k = Sh.kw k n.k.wk k.ov := by rw [← e]; exact h
theorem read_out (s : Hs) (k : Sh.Ks) (t : Ts) (d : Hd_) (xs : List Int) (F : Nat → List Int) (g : Nat → O4) (w : World) (h : In w s k t d xs F g) (hT : takenB s d t F = true) (hk : (g 0).k = 1 ∨ (g 0).k = 3 ∨ (g 0).k = 4 ∨ (g 0).k = 5) :
    Calls Tryz.prog 13 #[(.agg #[.slice s.w.a s.w.n s.w.c, .slice s.p.a s.p.n s.p.c, .slice (s.u 0).a (s.u 0).n (s.u 0).c, .slice (s.u 1).a (s.u 1).n (s.u 1).c, .slice (s.u 2).a (s.u 2).n (s.u 2).c, .slice s.c.a s.c.n s.c.c]), (.agg #[.int .i64 k.ph, .int .i64 k.ep, .bool k.mj, .slice k.wk.a k.wk.n k.wk.c, .bool k.ov, .int .i64 k.pa, .int .i64 k.pf, .int .i64 k.ps, .int .i64 k.pc, .bool k.me]), (.agg #[.bool t.lv, .int .i64 (t.r 0), .int .i64 (t.r 1), .int .i64 (t.r 2), .int .i64 (t.r 3), .slice (t.u 0).a (t.u 0).n (t.u 0).c, .slice (t.u 1).a (t.u 1).n (t.u 1).c, .slice (t.u 2).a (t.u 2).n (t.u 2).c, .int .i64 t.ep, .int .i64 t.sg, .int .i64 t.rt, .slice t.o.a t.o.n t.o.c, .int .i64 t.pc, .int .i64 t.x, .int .i64 t.y])] w (RdOut w s k t d xs g) :=
  (pstep_read s k t d xs F g w h hT hk).mono fun e w' ⟨n, he, hq, hh, _, hb⟩ => by
    have T := told_read ⟨begN s k t (g 0), d, xs, F, g⟩
    rw [T.d, T.xs] at hh
    refine ⟨n, _, _, by rw [he, hq.b, T.b], hh, lens_of h.hp hh (hq.wn.trans T.wn) (hq.pn.trans T.pn) (hq.cn.trans T.cn), kw_eq hq.k T.k, ⟨hq.q.trans T.q, ?_, ?_, ?_, ?_, hq.on.trans T.on⟩, hb⟩
    · rw [hq.t]; exact T.pc
    · rw [hq.t]; exact T.x
    · rw [hq.t]; exact T.y
    · rw [hq.t]; exact T.lv
theorem no_out (s : Hs) (k : Sh.Ks) (t : Ts) (d : Hd_) (xs : List Int) (F : Nat → List Int) (g : Nat → O4) (w : World) (h : In w s k t d xs F g) (hT : takenB s d t F = false) :
    Calls Tryz.prog 13 #[(.agg #[.slice s.w.a s.w.n s.w.c, .slice s.p.a s.p.n s.p.c, .slice (s.u 0).a (s.u 0).n (s.u 0).c, .slice (s.u 1).a (s.u 1).n (s.u 1).c, .slice (s.u 2).a (s.u 2).n (s.u 2).c, .slice s.c.a s.c.n s.c.c]), (.agg #[.int .i64 k.ph, .int .i64 k.ep, .bool k.mj, .slice k.wk.a k.wk.n k.wk.c, .bool k.ov, .int .i64 k.pa, .int .i64 k.pf, .int .i64 k.ps, .int .i64 k.pc, .bool k.me]), (.agg #[.bool t.lv, .int .i64 (t.r 0), .int .i64 (t.r 1), .int .i64 (t.r 2), .int .i64 (t.r 3), .slice (t.u 0).a (t.u 0).n (t.u 0).c, .slice (t.u 1).a (t.u 1).n (t.u 1).c, .slice (t.u 2).a (t.u 2).n (t.u 2).c, .int .i64 t.ep, .int .i64 t.sg, .int .i64 t.rt, .slice t.o.a t.o.n t.o.c, .int .i64 t.pc, .int .i64 t.x, .int .i64 t.y])] w (NoOut w s k t d xs F g) :=
  (pstep_not s k t d xs F g w h hT).mono fun e w' ⟨n, he, hq, hh, _, hb⟩ => ⟨n, by rw [he, hq.b]; rfl, hh, lens_of h.hp hh hq.wn hq.pn hq.cn, hq.k, ⟨hq.t, hq.on⟩, hb⟩
theorem ksame_of {k k' : Sh.Ks} {xs : List Int} {w : World} (h : k' = Sh.kw k k'.wk k.ov) (hr : Row w w.heap.size k'.wk.a k'.wk.n xs) (hs : Row w w.heap.size k.wk.a k.wk.n xs) (hn : xs.length ≤ 1000000) : Calls Tryz.prog 16 #[(.agg #[.int .i64 k'.ph, .int .i64 k'.ep, .bool k'.mj, .slice k'.wk.a k'.wk.n k'.wk.c, .bool k'.ov, .int .i64 k'.pa, .int .i64 k'.pf, .int .i64 k'.ps, .int .i64 k'.pc, .bool k'.me]), (.agg #[.int .i64 k.ph, .int .i64 k.ep, .bool k.mj, .slice k.wk.a k.wk.n k.wk.c, .bool k.ov, .int .i64 k.pa, .int .i64 k.pf, .int .i64 k.ps, .int .i64 k.pc, .bool k.me])] w fun e w' => e = .returned (.bool true) ∧ Below w.heap.size w w' := by
  obtain ⟨v, hv⟩ : ∃ v, v = k'.wk := ⟨_, rfl⟩
  rw [← hv] at h hr
  subst h
  exact Sh.ksame_yes k v k.wk k.ov xs w hr hs hn
end Go.Proofs.YtfjhhfncapmnmaaGreatDoor.Mu
end
