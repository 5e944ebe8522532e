/-
  Package hand: Begin.
-/
import Derived.Test.YtgmkomnoiffapaaGreatDoorHpBH
import Derived.Test.YtgmkomnoiffapaaGreatDoorHpBI
import Derived.Test.YtgmkomnoiffapaaGreatDoorBRtFresh
namespace Go.Proofs.YtgmkomnoiffapaaGreatDoor.Ha
open Go.Proofs.YtgmkomnoiffapaaGreatDoor Go.Proofs.YtgmkomnoiffapaaGreatDoor.Rt
open Go.RowKit
open Go.Proofs.YtgmkomnoiffapaaGreatDoor.Mu (hv kv w_load w_store w_loadg ldHb ldKb ldTb stHb stKb stTb st_int st_bool p_store noHs0 noK0)
set_option maxRecDepth 100000

/-- A thread with other cells; its cache and its operations are kept. -/
def bt (t : Ts) (lv : Bool) (r : Nat → Int) (ep sg rt pc x y : Int) : Ts := ⟨lv, r, t.u, ep, sg, rt, t.o, pc, x, y⟩
def reg0 (z : Int) : Nat → Int := fun i => if i = 0 then z else 0
def lvB (t : Ts) : Bool := t.lv
/-- The thread that begins. -/
def begT (k : Sh.Ks) (T : Tl) (m : Ts) : Ts :=
  if 0 ≤ idxT lvB T then bt m true (reg0 ((T.g (idxT lvB T).toNat).r 0)) (T.g (idxT lvB T).toNat).ep (T.g (idxT lvB T).toNat).sg 0 0 0 0
  else bt m true (reg0 0) (aloneE k.ph k.ep) (aloneS k.ph) 0 0 0 0
def bgQ (k : Sh.Ks) (xs : List Int) (t : Ts) (F : Nat → List Int) (g : Nat → O4) : Q3 := ⟨noHs, k, t, Ck.dN, xs, F, g⟩
def BgOut (w : World) (k : Sh.Ks) (T : Tl) (t : Ts) (F : Nat → List Int) (g : Nat → O4) (e : Ending) (w' : World) : Prop :=
  ∃ (u : Nat → Ls.Sl) (v : Ls.Sl), v.n = t.o.n ∧ e = .returned (.agg #[.bool (begT k T (tw t u v)).lv, .int .i64 ((begT k T (tw t u v)).r 0), .int .i64 ((begT k T (tw t u v)).r 1), .int .i64 ((begT k T (tw t u v)).r 2), .int .i64 ((begT k T (tw t u v)).r 3), .slice ((begT k T (tw t u v)).u 0).a ((begT k T (tw t u v)).u 0).n ((begT k T (tw t u v)).u 0).c, .slice ((begT k T (tw t u v)).u 1).a ((begT k T (tw t u v)).u 1).n ((begT k T (tw t u v)).u 1).c, .slice ((begT k T (tw t u v)).u 2).a ((begT k T (tw t u v)).u 2).n ((begT k T (tw t u v)).u 2).c, .int .i64 (begT k T (tw t u v)).ep, .int .i64 (begT k T (tw t u v)).sg, .int .i64 (begT k T (tw t u v)).rt, .slice (begT k T (tw t u v)).o.a (begT k T (tw t u v)).o.n (begT k T (tw t u v)).o.c, .int .i64 (begT k T (tw t u v)).pc, .int .i64 (begT k T (tw t u v)).x, .int .i64 (begT k T (tw t u v)).y]) ∧ Th w' w'.heap.size (begT k T (tw t u v)) F g ∧ Below w.heap.size w w'
section
variable {w W W' w9 : World} {p : Nat → Nat} {c c' : Nat → List Value} {ps : List Q3} {k : Sh.Ks} {xs : List Int} {t m : Ts} {F : Nat → List Int} {g : Nat → O4} {T : Tl} {i j : Nat} {vs us : List Value}
theorem beg_th {n : Ts} (hm : n.u = m.u) (ho : n.o = m.o) (h : Th W W.heap.size m F g) : Th W W.heap.size n F g := ⟨by rw [hm]; exact h.c, by rw [ho]; exact h.o, by rw [ho]; exact h.k⟩
theorem begT_u : (begT k T m).u = m.u := by unfold begT; split <;> rfl
theorem begT_o : (begT k T m).o = m.o := by unfold begT; split <;> rfl
theorem w3_puts (h : W3 w W p c ps) (i : Nat) (hi : i < 3) (j : Nat) (us : List Value) (hv : sets j us (c i) = vs) (hc : ∀ k, k < 3 → c' k = if k = i then vs else c k) : W3 w (puts (p i) j us W) p c' ps := by
  have hb := Box.puts us j (h.box i hi)
  rw [hv] at hb
  exact h.turn hi hb (below_puts _ (h.lo i hi) _ _ _ h.bel) (fun _ hk => puts_other _ _ _ _ hk) (puts_size _ _ _ _) hc
theorem off_no {b : Nat} : Mu.Off b ⟨none, 0, 0⟩ := fun h => absurd h (Nat.lt_irrefl 0)
/-- Behind the copy. -/
theorem bg_next (h : W3 w W p c []) (hk : Sh.WRow w w.heap.size k xs) (hT : Th W' W'.heap.size m F g) (hu : ∀ j, j < 3 → ∀ x, (m.u j).a = some x → W.heap.size ≤ x.block) (ho : 0 < m.o.n → ∀ x, m.o.a = some x → W.heap.size ≤ x.block) (hb : Below W.heap.size W W') : W3 w W' p c [bgQ k xs m F g] := by
  have nx := h.next hb
  refine W3.held ⟨nx.bel, nx.lo, nx.inj, nx.box, fun x hx => (by cases hx)⟩ ⟨Ck.hp_none _ _, Sh.WRow.next hk nx.bel, hT⟩ fun i hi => ?_
  have lt := h.lt hi
  have lo := h.lo i hi
  exact ⟨⟨off_no, off_no, fun _ _ => off_no, off_no⟩, fun hn x hx => (by have := Mu.row_lies hk hn x hx; omega), ⟨fun j hj => off_ge (fun _ x hx => hu j hj x hx) lt, off_ge ho lt⟩⟩
/-- The boxes of the arguments, and of the result. -/
theorem bg_start {t1 t2 t3 : TypeId} (h : W = ((w.alloc (.cells (kv k).toArray t1)).alloc (.cells (tv t).toArray t2)).alloc (.cells (tv noT).toArray t3)) : W3 w W (p3 w.heap.size (w.heap.size + 1) (w.heap.size + 2)) (c3 (kv k) (tv t) (tv noT)) [] := by
  have l := (((lb_none w).lay (kv k) t1).lay (tv t) t2).lay (tv noT) t3
  rw [World.size_alloc, World.size_alloc, ← h] at l
  exact ⟨l.bel, all3 ⟨Nat.le_refl _, Nat.le_add_right _ _, Nat.le_add_right _ _⟩, inj3, all3 ⟨l.bx (w.heap.size) (kv k) (by simp), l.bx (w.heap.size + 1) (tv t) (by simp), l.bx (w.heap.size + 1 + 1) (tv noT) (by simp)⟩, fun x hx => (by cases hx)⟩
theorem bg_end (h : W3 w W p c [bgQ k xs m F g]) {u : Nat → Ls.Sl} {v : Ls.Sl} (hm : m = tw t u v) (hv : v.n = t.o.n) {n : Ts} (hn : n = begT k T m) : ∃ (u : Nat → Ls.Sl) (v : Ls.Sl), v.n = t.o.n ∧ Ending.returned (.agg #[.bool n.lv, .int .i64 (n.r 0), .int .i64 (n.r 1), .int .i64 (n.r 2), .int .i64 (n.r 3), .slice (n.u 0).a (n.u 0).n (n.u 0).c, .slice (n.u 1).a (n.u 1).n (n.u 1).c, .slice (n.u 2).a (n.u 2).n (n.u 2).c, .int .i64 n.ep, .int .i64 n.sg, .int .i64 n.rt, .slice n.o.a n.o.n n.o.c, .int .i64 n.pc, .int .i64 n.x, .int .i64 n.y]) = Ending.returned (.agg #[.bool (begT k T (tw t u v)).lv, .int .i64 ((begT k T (tw t u v)).r 0), .int .i64 ((begT k T (tw t u v)).r 1), .int .i64 ((begT k T (tw t u v)).r 2), .int .i64 ((begT k T (tw t u v)).r 3), .slice ((begT k T (tw t u v)).u 0).a ((begT k T (tw t u v)).u 0).n ((begT k T (tw t u v)).u 0).c, .slice ((begT k T (tw t u v)).u 1).a ((begT k T (tw t u v)).u 1).n ((begT k T (tw t u v)).u 1).c, .slice ((begT k T (tw t u v)).u 2).a ((begT k T (tw t u v)).u 2).n ((begT k T (tw t u v)).u 2).c, .int .i64 (begT k T (tw t u v)).ep, .int .i64 (begT k T (tw t u v)).sg, .int .i64 (begT k T (tw t u v)).rt, .slice (begT k T (tw t u v)).o.a (begT k T (tw t u v)).o.n (begT k T (tw t u v)).o.c, .int .i64 (begT k T (tw t u v)).pc, .int .i64 (begT k T (tw t u v)).x, .int .i64 (begT k T (tw t u v)).y]) ∧ Th W W.heap.size (begT k T (tw t u v)) F g ∧ Below w.heap.size w W :=
  ⟨u, v, hv, by rw [hn, hm], by rw [← hm]; exact beg_th begT_u begT_o (h.at (bgQ k xs m F g) (by simp)).t, h.bel⟩
/-- A cell of a thread in a slice. -/
theorem TRow.cell {B n b off : Nat} {a : Option Addr} {g : Nat → Ts} (h : TRow w B a n g) (ha : a = some ⟨b, off, none⟩) (hi : i < n) (j : Nat) (v : Value) (hv : (tv (g i))[j]? = some v) : w.cell? ⟨b, off + i * 15 + j, none⟩ = some v := by
  obtain ⟨b', off', e, _, hc⟩ := h (by omega)
  rw [ha] at e
  cases e
  exact hc i hi j v hv
/-- The region that takes from the first one that lives. -/
def bg3 (m : Ts) (z e s : Int) (b1 b2 b3 : Bool) : Ts := bt m true (reg0 (if b1 then z else 0)) (if b2 then e else m.ep) (if b3 then s else m.sg) 0 0 0 0
structure Bg (w : World) (k : Sh.Ks) (m : Ts) (n : Q3) (z e s : Int) (l : Nat → Bool) (W : World) : Prop where
  st : W3 w W (p3 w.heap.size (w.heap.size + 1) (w.heap.size + 2)) (c3 (kv k) (tv (bg3 m z e s (l 18) (l 20) (l 22))) (tv noT)) [n]
variable {n : Q3} {z e s : Int} {l : Nat → Bool}
theorem Bg.pure (h : Bg w k m n z e s l W) (hi : ¬ i = 18 ∧ ¬ i = 20 ∧ ¬ i = 22) : Bg w k m n z e s (Ls.upd l i true) W :=
  ⟨by rw [Ls.upd_other _ _ (fun e => hi.1 e.symm), Ls.upd_other _ _ (fun e => hi.2.1 e.symm), Ls.upd_other _ _ (fun e => hi.2.2 e.symm)]; exact h.st⟩
theorem Bg.st18 (h : Bg w k m n z e s l W) : Bg w k m n z e s (Ls.upd l 18 true) (W.setCell ⟨w.heap.size + 1, 1, none⟩ (.int .i64 z)) :=
  ⟨by rw [Ls.upd_same, Ls.upd_other _ _ (by decide), Ls.upd_other _ _ (by decide)]; exact h.st.cell 1 (by decide) 1 (.int .i64 z) rfl (all3 ⟨rfl, rfl, rfl⟩)⟩
theorem Bg.st20 (h : Bg w k m n z e s l W) : Bg w k m n z e s (Ls.upd l 20 true) (W.setCell ⟨w.heap.size + 1, 8, none⟩ (.int .i64 e)) :=
  ⟨by rw [Ls.upd_same, Ls.upd_other _ _ (by decide), Ls.upd_other _ _ (by decide)]; exact h.st.cell 1 (by decide) 8 (.int .i64 e) rfl (all3 ⟨rfl, rfl, rfl⟩)⟩
theorem Bg.st22 (h : Bg w k m n z e s l W) : Bg w k m n z e s (Ls.upd l 22 true) (W.setCell ⟨w.heap.size + 1, 9, none⟩ (.int .i64 s)) :=
  ⟨by rw [Ls.upd_same, Ls.upd_other _ _ (by decide), Ls.upd_other _ _ (by decide)]; exact h.st.cell 1 (by decide) 9 (.int .i64 s) rfl (all3 ⟨rfl, rfl, rfl⟩)⟩
theorem bg_begin (h : W3 w W (p3 w.heap.size (w.heap.size + 1) (w.heap.size + 2)) (c3 (kv k) (tv (bt m true (reg0 0) m.ep m.sg 0 0 0 0)) (tv noT)) [n]) : Bg w k m n z e s (fun _ => false) W := ⟨h⟩
theorem Bg.done (h : Bg w k m n z e s l W) (hall : ∀ i, i < 23 → l i = true) : W3 w W (p3 w.heap.size (w.heap.size + 1) (w.heap.size + 2)) (c3 (kv k) (tv (bt m true (reg0 z) e s 0 0 0 0)) (tv noT)) [n] := by
  have := h.st
  rw [hall 18 (by decide), hall 20 (by decide), hall 22 (by decide)] at this
  exact this
end
theorem infR : (Tryz.prog.info? 31).map (·.size) = some 4 := by kernel_rfl
section
variable {w W W0 : World} {p : Nat → Nat} {c c' : Nat → List Value} {ps : List Q3} {ops : Array Oper} {rest : List Oper} {o : Oper} {a : Act} {Q : Exit → Act → World → Prop}
theorem w3_int {X Y : Operand} (h : W3 w W0 p c ps) (i : Nat) (hi : i < 3) (j : Nat) (z : Int) {vs : List Value} (hj : j < (c i).length) (hv : (c i).set j (.int .i64 z) = vs) (hc : ∀ k, k < 3 → c' k = if k = i then vs else c k) (hw : W = W0) (hgd : o.guard = none) (ho : o.op = .store 3 X Y) (hx : a.eval X = .pointer (some ⟨p i, j, none⟩)) (hy : a.eval Y = .int .i64 z) (hK : ∀ W', W3 w W' p c' ps → wpList Tryz.prog ops Q rest (a.put o.dst undef) W') : wpList Tryz.prog ops Q (o :: rest) a W :=
  w_store (st_int (h.box i hi) hj z) hw hgd ho hx hy (hK _ (h.cell i hi j (.int .i64 z) hv hc))
theorem w3_bool {X Y : Operand} (h : W3 w W0 p c ps) (i : Nat) (hi : i < 3) (j : Nat) (z : Bool) {vs : List Value} (hj : j < (c i).length) (hv : (c i).set j (.bool z) = vs) (hc : ∀ k, k < 3 → c' k = if k = i then vs else c k) (hw : W = W0) (hgd : o.guard = none) (ho : o.op = .store 4 X Y) (hx : a.eval X = .pointer (some ⟨p i, j, none⟩)) (hy : a.eval Y = .bool z) (hK : ∀ W', W3 w W' p c' ps → wpList Tryz.prog ops Q rest (a.put o.dst undef) W') : wpList Tryz.prog ops Q (o :: rest) a W :=
  w_store (st_bool (h.box i hi) hj z) hw hgd ho hx hy (hK _ (h.cell i hi j (.bool z) hv hc))
theorem w3_regs {X Y : Operand} (h : W3 w W0 p c ps) (i : Nat) (hi : i < 3) {vs : List Value} (hj : 5 ≤ (c i).length) (hv : sets 1 [.int .i64 0, .int .i64 0, .int .i64 0, .int .i64 0] (c i) = vs) (hc : ∀ k, k < 3 → c' k = if k = i then vs else c k) (hw : W = W0) (hgd : o.guard = none) (ho : o.op = .store 31 X Y) (hx : a.eval X = .pointer (some ⟨p i, 1, none⟩)) (hy : a.eval Y = .agg #[.int .i64 0, .int .i64 0, .int .i64 0, .int .i64 0]) (hK : ∀ W', W3 w W' p c' ps → wpList Tryz.prog ops Q rest (a.put o.dst undef) W') : wpList Tryz.prog ops Q (o :: rest) a W :=
  w_store (Mu.st (h.box i hi) (o := 1) (cs := [.int .i64 0, .int .i64 0, .int .i64 0, .int .i64 0]) hj _ infR (by kernel_rfl)) hw hgd ho hx hy (hK _ (w3_puts h i hi 1 _ hv hc))
theorem res_beg {b : Nat} {tm : Array Value} {u : Ts} (ht : tm[6]? = some (.pointer (some ⟨b, 0, none⟩))) (h : Box W b (tv u)) : (results Tryz.f31 tm).run Tryz.prog W = .ok (.agg #[.bool u.lv, .int .i64 (u.r 0), .int .i64 (u.r 1), .int .i64 (u.r 2), .int .i64 (u.r 3), .slice (u.u 0).a (u.u 0).n (u.u 0).c, .slice (u.u 1).a (u.u 1).n (u.u 1).c, .slice (u.u 2).a (u.u 2).n (u.u 2).c, .int .i64 u.ep, .int .i64 u.sg, .int .i64 u.rt, .slice u.o.a u.o.n u.o.c, .int .i64 u.pc, .int .i64 u.x, .int .i64 u.y]) W := by
  have k0 := (h).cel 0 (.bool u.lv) rfl
  have k1 := (h).cel 1 (.int .i64 (u.r 0)) rfl
  have k2 := (h).cel 2 (.int .i64 (u.r 1)) rfl
  have k3 := (h).cel 3 (.int .i64 (u.r 2)) rfl
  have k4 := (h).cel 4 (.int .i64 (u.r 3)) rfl
  have k5 := (h).cel 5 (.slice (u.u 0).a (u.u 0).n (u.u 0).c) rfl
  have k6 := (h).cel 6 (.slice (u.u 1).a (u.u 1).n (u.u 1).c) rfl
  have k7 := (h).cel 7 (.slice (u.u 2).a (u.u 2).n (u.u 2).c) rfl
  have k8 := (h).cel 8 (.int .i64 u.ep) rfl
  have k9 := (h).cel 9 (.int .i64 u.sg) rfl
  have k10 := (h).cel 10 (.int .i64 u.rt) rfl
  have k11 := (h).cel 11 (.slice u.o.a u.o.n u.o.c) rfl
  have k12 := (h).cel 12 (.int .i64 u.pc) rfl
  have k13 := (h).cel 13 (.int .i64 u.x) rfl
  have k14 := (h).cel 14 (.int .i64 u.y) rfl
  have kl := (h).lt
  simp [results, Tryz.results31, go_sem, ht, k0, k1, k2, k3, k4, k5, k6, k7, k8, k9, k10, k11, k12, k13, k14]
end
set_option maxHeartbeats 4000000 in
theorem begin_none (k : Sh.Ks) (xs : List Int) (T : Tl) (t : Ts) (F : Nat → List Int) (g : Nat → O4) (w : World) (hk : Sh.WRow w w.heap.size k xs) (hT : Th w w.heap.size t F g) (hr : TRow w w.heap.size T.s.a T.s.n T.g) (hn : T.s.n ≤ 1000000) (hu : ∀ j, j < 3 → (t.u j).n ≤ 2000000) (ho : t.o.n ≤ 100000) (hi : idxT lvB T = -1) : Calls Tryz.prog 31 #[(.agg #[.int .i64 k.ph, .int .i64 k.ep, .bool k.mj, .slice k.wk.a k.wk.n k.wk.c, .bool k.ov, .int .i64 k.pa, .int .i64 k.pf, .int .i64 k.ps, .int .i64 k.pc, .bool k.me]), (.agg #[.bool t.lv, .int .i64 (t.r 0), .int .i64 (t.r 1), .int .i64 (t.r 2), .int .i64 (t.r 3), .slice (t.u 0).a (t.u 0).n (t.u 0).c, .slice (t.u 1).a (t.u 1).n (t.u 1).c, .slice (t.u 2).a (t.u 2).n (t.u 2).c, .int .i64 t.ep, .int .i64 t.sg, .int .i64 t.rt, .slice t.o.a t.o.n t.o.c, .int .i64 t.pc, .int .i64 t.x, .int .i64 t.y]), .slice T.s.a T.s.n T.s.c] w (BgOut w k T t F g) := by
  have HK := Lib.hid hk
  have HR := Lib.hid hr
  have HTT := Lib.hid hT
  have C1 := Lib.hid (fun W (hb : Below w.heap.size w W) => fthread_any t F g W (hT.next hb) hu ho)
  have C2 := Lib.hid (fun W (hb : Below w.heap.size w W) => tindex_any T lvB 70 #[] W (fun _ _ => rfl) (hr.next hb) hn (fun i _ W' _ => lives_any (T.g i) W'))
  rw [hi] at C2
  have HB := Lib.hid (fun m : Ts => show begT k T m = bt m true (reg0 0) (aloneE k.ph k.ep) (aloneS k.ph) 0 0 0 0 by unfold begT; rw [hi, if_neg (by decide)])
  have C3 := Lib.hid (fun W => alone_any k W)
  clear hk hT hr hn hu ho hi
  go_enter Tryz.func31, Tryz.ntmps31
  go_upto_region 1 with fail
  obtain ⟨W1, hW1⟩ : ∃ W1, W1 = ((w.alloc (.cells #[.int .i64 k.ph, .int .i64 k.ep, .bool k.mj, .slice k.wk.a k.wk.n k.wk.c, .bool k.ov, .int .i64 k.pa, .int .i64 k.pf, .int .i64 k.ps, .int .i64 k.pc, .bool k.me] 30)).alloc (.cells #[.bool t.lv, .int .i64 (t.r 0), .int .i64 (t.r 1), .int .i64 (t.r 2), .int .i64 (t.r 3), .slice (t.u 0).a (t.u 0).n (t.u 0).c, .slice (t.u 1).a (t.u 1).n (t.u 1).c, .slice (t.u 2).a (t.u 2).n (t.u 2).c, .int .i64 t.ep, .int .i64 t.sg, .int .i64 t.rt, .slice t.o.a t.o.n t.o.c, .int .i64 t.pc, .int .i64 t.x, .int .i64 t.y] 34)).alloc (.cells #[.bool false, .int .i64 0, .int .i64 0, .int .i64 0, .int .i64 0, .slice none 0 0, .slice none 0 0, .slice none 0 0, .int .i64 0, .int .i64 0, .int .i64 0, .slice none 0 0, .int .i64 0, .int .i64 0, .int .i64 0] 34) := ⟨_, rfl⟩
  have S1 := Lib.hid (bg_start (k := k) (t := t) hW1)
  rw [← hW1]
  clear hW1
  go_upto_region 2 with (first
    | (refine w_load (ldTb (show Box _ (w.heap.size + 1) _ from S1.out.box 1 (by decide))) rfl rfl rfl rfl ?_)
    | ((go_at_call 54); (with_reducible refine (C1.out _ S1.out.bel).mono ?_); rintro e9 w9 ⟨u, v, hv9, rfl, ht9, hx9, hy9, hb9⟩; have S2 := Lib.hid (bg_next S1.out HK.out ht9 hx9 hy9 hb9); have V2 := Lib.hid hv9; clear hv9 ht9 hx9 hy9 hb9)
    | (refine w3_putT S2.out 1 (by decide) (tw t u v) (c' := c3 (kv k) (tv (tw t u v)) (tv noT)) rfl (all3 ⟨rfl, rfl, rfl⟩) rfl rfl rfl rfl rfl ?_; intro W3' h3; have S3 := Lib.hid h3; clear h3 S2))
  obtain ⟨m, hm⟩ : ∃ m, m = tw t u v := ⟨_, rfl⟩
  have M3 := Lib.hid hm
  rw [← hm] at S3
  clear hm S1
  go_upto_region 3 with (first
    | (refine w3_bool S3.out 1 (by decide) 0 true (vs := tv (bt m true m.r m.ep m.sg m.rt m.pc m.x m.y)) (c' := c3 (kv k) (tv (bt m true m.r m.ep m.sg m.rt m.pc m.x m.y)) (tv noT)) (show 0 < 15 by decide) rfl (all3 ⟨rfl, rfl, rfl⟩) rfl rfl rfl rfl rfl ?_; intro W4 h6; have S4 := Lib.hid h6; clear h6 S3)
    | (refine w3_regs S4.out 1 (by decide) (vs := tv (bt m true (reg0 0) m.ep m.sg m.rt m.pc m.x m.y)) (c' := c3 (kv k) (tv (bt m true (reg0 0) m.ep m.sg m.rt m.pc m.x m.y)) (tv noT)) (show 5 ≤ 15 by decide) rfl (all3 ⟨rfl, rfl, rfl⟩) rfl rfl rfl rfl rfl ?_; intro W5 h6; have S5 := Lib.hid h6; clear h6 S4))
  go_upto_region 4 with (first
    | (refine w3_int S5.out 1 (by decide) 13 (0) (vs := tv (bt m true (reg0 0) m.ep m.sg m.rt m.pc 0 m.y)) (c' := c3 (kv k) (tv (bt m true (reg0 0) m.ep m.sg m.rt m.pc 0 m.y)) (tv noT)) (show 13 < 15 by decide) rfl (all3 ⟨rfl, rfl, rfl⟩) rfl rfl rfl rfl rfl ?_; intro W6' h6; have S6 := Lib.hid h6; clear h6 S5)
    | (refine w3_int S6.out 1 (by decide) 14 (0) (vs := tv (bt m true (reg0 0) m.ep m.sg m.rt m.pc 0 0)) (c' := c3 (kv k) (tv (bt m true (reg0 0) m.ep m.sg m.rt m.pc 0 0)) (tv noT)) (show 14 < 15 by decide) rfl (all3 ⟨rfl, rfl, rfl⟩) rfl rfl rfl rfl rfl ?_; intro W7 h6; have S7 := Lib.hid h6; clear h6 S6)
    | (refine w3_int S7.out 1 (by decide) 12 (0) (vs := tv (bt m true (reg0 0) m.ep m.sg m.rt 0 0 0)) (c' := c3 (kv k) (tv (bt m true (reg0 0) m.ep m.sg m.rt 0 0 0)) (tv noT)) (show 12 < 15 by decide) rfl (all3 ⟨rfl, rfl, rfl⟩) rfl rfl rfl rfl rfl ?_; intro W8 h6; have S8 := Lib.hid h6; clear h6 S7)
    | (refine w3_int S8.out 1 (by decide) 10 (0) (vs := tv (bt m true (reg0 0) m.ep m.sg 0 0 0 0)) (c' := c3 (kv k) (tv (bt m true (reg0 0) m.ep m.sg 0 0 0 0)) (tv noT)) (show 10 < 15 by decide) rfl (all3 ⟨rfl, rfl, rfl⟩) rfl rfl rfl rfl rfl ?_; intro W9 h6; have S9 := Lib.hid h6; clear h6 S8))
  go_upto_region 8 with (first
    | ((go_at_call 69); (with_reducible refine (C2.out _ S9.out.bel).mono ?_); rintro e9 w9 ⟨rfl, hb9⟩; have SA := Lib.hid (S9.out.next hb9); clear hb9 S9)
    | (refine w_load (ldKb (show Box _ (w.heap.size) _ from SA.out.box 0 (by decide))) rfl rfl rfl rfl ?_)
    | ((go_at_call 71); (with_reducible refine (C3.out _).mono ?_); rintro e9 w9 ⟨rfl, hb9⟩; have SAA := Lib.hid (SA.out.next hb9); clear hb9 SA)
    | (refine w3_int SAA.out 1 (by decide) 8 (aloneE k.ph k.ep) (vs := tv (bt m true (reg0 0) (aloneE k.ph k.ep) m.sg 0 0 0 0)) (c' := c3 (kv k) (tv (bt m true (reg0 0) (aloneE k.ph k.ep) m.sg 0 0 0 0)) (tv noT)) (show 8 < 15 by decide) rfl (all3 ⟨rfl, rfl, rfl⟩) rfl rfl rfl rfl rfl ?_; intro WA h6; have SAB := Lib.hid h6; clear h6 SAA)
    | (refine w3_int SAB.out 1 (by decide) 9 (aloneS k.ph) (vs := tv (bt m true (reg0 0) (aloneE k.ph k.ep) (aloneS k.ph) 0 0 0 0)) (c' := c3 (kv k) (tv (bt m true (reg0 0) (aloneE k.ph k.ep) (aloneS k.ph) 0 0 0 0)) (tv noT)) (show 9 < 15 by decide) rfl (all3 ⟨rfl, rfl, rfl⟩) rfl rfl rfl rfl rfl ?_; intro WB h6; have SB := Lib.hid h6; clear h6 SAB))
  go_wp2_with (first
    | (refine w_load (ldTb (show Box _ (w.heap.size + 1) (tv (bt m true (reg0 0) (aloneE k.ph k.ep) (aloneS k.ph) 0 0 0 0)) from SB.out.box 1 (by decide))) rfl rfl rfl rfl ?_)
    | (refine w3_putT SB.out 2 (by decide) (bt m true (reg0 0) (aloneE k.ph k.ep) (aloneS k.ph) 0 0 0 0) (c' := c3 (kv k) (tv (bt m true (reg0 0) (aloneE k.ph k.ep) (aloneS k.ph) 0 0 0 0)) (tv (bt m true (reg0 0) (aloneE k.ph k.ep) (aloneS k.ph) 0 0 0 0))) rfl (all3 ⟨rfl, rfl, rfl⟩) rfl rfl rfl rfl rfl ?_; intro WZ hZ; have SZ := Lib.hid hZ; clear hZ SB))
  refine bodyPost_ret (v := (.agg #[.bool (bt m true (reg0 0) (aloneE k.ph k.ep) (aloneS k.ph) 0 0 0 0).lv, .int .i64 ((bt m true (reg0 0) (aloneE k.ph k.ep) (aloneS k.ph) 0 0 0 0).r 0), .int .i64 ((bt m true (reg0 0) (aloneE k.ph k.ep) (aloneS k.ph) 0 0 0 0).r 1), .int .i64 ((bt m true (reg0 0) (aloneE k.ph k.ep) (aloneS k.ph) 0 0 0 0).r 2), .int .i64 ((bt m true (reg0 0) (aloneE k.ph k.ep) (aloneS k.ph) 0 0 0 0).r 3), .slice ((bt m true (reg0 0) (aloneE k.ph k.ep) (aloneS k.ph) 0 0 0 0).u 0).a ((bt m true (reg0 0) (aloneE k.ph k.ep) (aloneS k.ph) 0 0 0 0).u 0).n ((bt m true (reg0 0) (aloneE k.ph k.ep) (aloneS k.ph) 0 0 0 0).u 0).c, .slice ((bt m true (reg0 0) (aloneE k.ph k.ep) (aloneS k.ph) 0 0 0 0).u 1).a ((bt m true (reg0 0) (aloneE k.ph k.ep) (aloneS k.ph) 0 0 0 0).u 1).n ((bt m true (reg0 0) (aloneE k.ph k.ep) (aloneS k.ph) 0 0 0 0).u 1).c, .slice ((bt m true (reg0 0) (aloneE k.ph k.ep) (aloneS k.ph) 0 0 0 0).u 2).a ((bt m true (reg0 0) (aloneE k.ph k.ep) (aloneS k.ph) 0 0 0 0).u 2).n ((bt m true (reg0 0) (aloneE k.ph k.ep) (aloneS k.ph) 0 0 0 0).u 2).c, .int .i64 (bt m true (reg0 0) (aloneE k.ph k.ep) (aloneS k.ph) 0 0 0 0).ep, .int .i64 (bt m true (reg0 0) (aloneE k.ph k.ep) (aloneS k.ph) 0 0 0 0).sg, .int .i64 (bt m true (reg0 0) (aloneE k.ph k.ep) (aloneS k.ph) 0 0 0 0).rt, .slice (bt m true (reg0 0) (aloneE k.ph k.ep) (aloneS k.ph) 0 0 0 0).o.a (bt m true (reg0 0) (aloneE k.ph k.ep) (aloneS k.ph) 0 0 0 0).o.n (bt m true (reg0 0) (aloneE k.ph k.ep) (aloneS k.ph) 0 0 0 0).o.c, .int .i64 (bt m true (reg0 0) (aloneE k.ph k.ep) (aloneS k.ph) 0 0 0 0).pc, .int .i64 (bt m true (reg0 0) (aloneE k.ph k.ep) (aloneS k.ph) 0 0 0 0).x, .int .i64 (bt m true (reg0 0) (aloneE k.ph k.ep) (aloneS k.ph) 0 0 0 0).y])) (res_beg rfl (show Box _ (w.heap.size + 2) (tv (bt m true (reg0 0) (aloneE k.ph k.ep) (aloneS k.ph) 0 0 0 0)) from SZ.out.box 2 (by decide))) rfl ?_
  exact bg_end SZ.out M3.out V2.out (HB.out m).symm
set_option maxHeartbeats 4000000 in
theorem begin_some (k : Sh.Ks) (xs : List Int) (T : Tl) (t : Ts) (F : Nat → List Int) (g : Nat → O4) (w : World) (hk : Sh.WRow w w.heap.size k xs) (hT : Th w w.heap.size t F g) (hr : TRow w w.heap.size T.s.a T.s.n T.g) (hn : T.s.n ≤ 1000000) (hu : ∀ j, j < 3 → (t.u j).n ≤ 2000000) (ho : t.o.n ≤ 100000) (q : Nat) (hi : idxT lvB T = (q : Int)) (hlt : q < T.s.n) : Calls Tryz.prog 31 #[(.agg #[.int .i64 k.ph, .int .i64 k.ep, .bool k.mj, .slice k.wk.a k.wk.n k.wk.c, .bool k.ov, .int .i64 k.pa, .int .i64 k.pf, .int .i64 k.ps, .int .i64 k.pc, .bool k.me]), (.agg #[.bool t.lv, .int .i64 (t.r 0), .int .i64 (t.r 1), .int .i64 (t.r 2), .int .i64 (t.r 3), .slice (t.u 0).a (t.u 0).n (t.u 0).c, .slice (t.u 1).a (t.u 1).n (t.u 1).c, .slice (t.u 2).a (t.u 2).n (t.u 2).c, .int .i64 t.ep, .int .i64 t.sg, .int .i64 t.rt, .slice t.o.a t.o.n t.o.c, .int .i64 t.pc, .int .i64 t.x, .int .i64 t.y]), .slice T.s.a T.s.n T.s.c] w (BgOut w k T t F g) := by
  have HK := Lib.hid hk
  have HR := Lib.hid hr
  have HTT := Lib.hid hT
  have C1 := Lib.hid (fun W (hb : Below w.heap.size w W) => fthread_any t F g W (hT.next hb) hu ho)
  have C2 := Lib.hid (fun W (hb : Below w.heap.size w W) => tindex_any T lvB 70 #[] W (fun _ _ => rfl) (hr.next hb) hn (fun i _ W' _ => lives_any (T.g i) W'))
  rw [hi] at C2
  have HB := Lib.hid (fun m : Ts => show begT k T m = bt m true (reg0 ((T.g q).r 0)) (T.g q).ep (T.g q).sg 0 0 0 0 by unfold begT; rw [hi, if_pos (by omega)]; rfl)
  obtain ⟨b, off, ea, _, _⟩ := hr (by omega)
  rw [ea] at C2
  have hltz : (q : Int) < (T.s.n : Int) := by omega
  have n0 : decide ((q : Int) ≥ 0) = true := decide_eq_true (by omega)
  have n1 : decide (0 ≤ (q : Int)) = true := n0
  clear hk hT hr hn hu ho hi
  go_enter Tryz.func31, Tryz.ntmps31
  go_upto_region 1 with fail
  obtain ⟨W1, hW1⟩ : ∃ W1, W1 = ((w.alloc (.cells #[.int .i64 k.ph, .int .i64 k.ep, .bool k.mj, .slice k.wk.a k.wk.n k.wk.c, .bool k.ov, .int .i64 k.pa, .int .i64 k.pf, .int .i64 k.ps, .int .i64 k.pc, .bool k.me] 30)).alloc (.cells #[.bool t.lv, .int .i64 (t.r 0), .int .i64 (t.r 1), .int .i64 (t.r 2), .int .i64 (t.r 3), .slice (t.u 0).a (t.u 0).n (t.u 0).c, .slice (t.u 1).a (t.u 1).n (t.u 1).c, .slice (t.u 2).a (t.u 2).n (t.u 2).c, .int .i64 t.ep, .int .i64 t.sg, .int .i64 t.rt, .slice t.o.a t.o.n t.o.c, .int .i64 t.pc, .int .i64 t.x, .int .i64 t.y] 34)).alloc (.cells #[.bool false, .int .i64 0, .int .i64 0, .int .i64 0, .int .i64 0, .slice none 0 0, .slice none 0 0, .slice none 0 0, .int .i64 0, .int .i64 0, .int .i64 0, .slice none 0 0, .int .i64 0, .int .i64 0, .int .i64 0] 34) := ⟨_, rfl⟩
  have S1 := Lib.hid (bg_start (k := k) (t := t) hW1)
  rw [← hW1]
  clear hW1
  go_upto_region 2 with (first
    | (refine w_load (ldTb (show Box _ (w.heap.size + 1) _ from S1.out.box 1 (by decide))) rfl rfl rfl rfl ?_)
    | ((go_at_call 54); (with_reducible refine (C1.out _ S1.out.bel).mono ?_); rintro e9 w9 ⟨u, v, hv9, rfl, ht9, hx9, hy9, hb9⟩; have S2 := Lib.hid (bg_next S1.out HK.out ht9 hx9 hy9 hb9); have V2 := Lib.hid hv9; clear hv9 ht9 hx9 hy9 hb9)
    | (refine w3_putT S2.out 1 (by decide) (tw t u v) (c' := c3 (kv k) (tv (tw t u v)) (tv noT)) rfl (all3 ⟨rfl, rfl, rfl⟩) rfl rfl rfl rfl rfl ?_; intro W3' h3; have S3 := Lib.hid h3; clear h3 S2))
  obtain ⟨m, hm⟩ : ∃ m, m = tw t u v := ⟨_, rfl⟩
  have M3 := Lib.hid hm
  rw [← hm] at S3
  clear hm S1
  go_upto_region 3 with (first
    | (refine w3_bool S3.out 1 (by decide) 0 true (vs := tv (bt m true m.r m.ep m.sg m.rt m.pc m.x m.y)) (c' := c3 (kv k) (tv (bt m true m.r m.ep m.sg m.rt m.pc m.x m.y)) (tv noT)) (show 0 < 15 by decide) rfl (all3 ⟨rfl, rfl, rfl⟩) rfl rfl rfl rfl rfl ?_; intro W4 h6; have S4 := Lib.hid h6; clear h6 S3)
    | (refine w3_regs S4.out 1 (by decide) (vs := tv (bt m true (reg0 0) m.ep m.sg m.rt m.pc m.x m.y)) (c' := c3 (kv k) (tv (bt m true (reg0 0) m.ep m.sg m.rt m.pc m.x m.y)) (tv noT)) (show 5 ≤ 15 by decide) rfl (all3 ⟨rfl, rfl, rfl⟩) rfl rfl rfl rfl rfl ?_; intro W5 h6; have S5 := Lib.hid h6; clear h6 S4))
  go_upto_region 4 with (first
    | (refine w3_int S5.out 1 (by decide) 13 (0) (vs := tv (bt m true (reg0 0) m.ep m.sg m.rt m.pc 0 m.y)) (c' := c3 (kv k) (tv (bt m true (reg0 0) m.ep m.sg m.rt m.pc 0 m.y)) (tv noT)) (show 13 < 15 by decide) rfl (all3 ⟨rfl, rfl, rfl⟩) rfl rfl rfl rfl rfl ?_; intro W6' h6; have S6 := Lib.hid h6; clear h6 S5)
    | (refine w3_int S6.out 1 (by decide) 14 (0) (vs := tv (bt m true (reg0 0) m.ep m.sg m.rt m.pc 0 0)) (c' := c3 (kv k) (tv (bt m true (reg0 0) m.ep m.sg m.rt m.pc 0 0)) (tv noT)) (show 14 < 15 by decide) rfl (all3 ⟨rfl, rfl, rfl⟩) rfl rfl rfl rfl rfl ?_; intro W7 h6; have S7 := Lib.hid h6; clear h6 S6)
    | (refine w3_int S7.out 1 (by decide) 12 (0) (vs := tv (bt m true (reg0 0) m.ep m.sg m.rt 0 0 0)) (c' := c3 (kv k) (tv (bt m true (reg0 0) m.ep m.sg m.rt 0 0 0)) (tv noT)) (show 12 < 15 by decide) rfl (all3 ⟨rfl, rfl, rfl⟩) rfl rfl rfl rfl rfl ?_; intro W8 h6; have S8 := Lib.hid h6; clear h6 S7)
    | (refine w3_int S8.out 1 (by decide) 10 (0) (vs := tv (bt m true (reg0 0) m.ep m.sg 0 0 0 0)) (c' := c3 (kv k) (tv (bt m true (reg0 0) m.ep m.sg 0 0 0 0)) (tv noT)) (show 10 < 15 by decide) rfl (all3 ⟨rfl, rfl, rfl⟩) rfl rfl rfl rfl rfl ?_; intro W9 h6; have S9 := Lib.hid h6; clear h6 S8))
  go_upto_region 6 with (first
    | ((go_at_call 69); (with_reducible refine (C2.out _ S9.out.bel).mono ?_); rintro e9 w9 ⟨rfl, hb9⟩; have SA := Lib.hid (S9.out.next hb9); clear hb9 S9))
  skip
  refine Sh.region_gen fun a0 ha0 => ?_
  have G2 : a0.tmps[2]? = some (.slice (some ⟨b, off, none⟩) T.s.n T.s.c) := by rw [ha0]; rw [← ea]; rfl
  have G7 : a0.tmps[7]? = some (.int .i64 (q : Int)) := by rw [ha0]; rfl
  have G4 : a0.tmps[4]? = some (.pointer (some ⟨w.heap.size + 1, 0, none⟩)) := by rw [ha0]; rfl
  have TZ : a0.tmps.size = 49 := by rw [ha0]; rfl
  have HA := Lib.hid ha0
  clear ha0
  refine region_planK (by kernel_rfl) (by kernel_rfl) (by rw [TZ]; kernel_rfl) (fun (x : Unit) (i : Nat) => (match i with | 0 => .slice (some ⟨b, off, none⟩) T.s.n T.s.c | 1 => .int .i64 (q : Int) | 2 => .pointer (some ⟨b, off + q * 15, none⟩) | 3 => .pointer (some ⟨b, off + q * 15 + 1, none⟩) | 4 => .pointer (some ⟨b, off + q * 15 + 1, none⟩) | 5 => .int .i64 ((T.g q).r 0) | 6 => .slice (some ⟨b, off, none⟩) T.s.n T.s.c | 7 => .int .i64 (q : Int) | 8 => .pointer (some ⟨b, off + q * 15, none⟩) | 9 => .pointer (some ⟨b, off + q * 15 + 8, none⟩) | 10 => .int .i64 ((T.g q).ep) | 11 => .slice (some ⟨b, off, none⟩) T.s.n T.s.c | 12 => .int .i64 (q : Int) | 13 => .pointer (some ⟨b, off + q * 15, none⟩) | 14 => .pointer (some ⟨b, off + q * 15 + 9, none⟩) | 15 => .int .i64 ((T.g q).sg) | 16 => .pointer (some ⟨w.heap.size + 1, 1, none⟩) | 17 => .pointer (some ⟨w.heap.size + 1, 1, none⟩) | 18 => undef | 19 => .pointer (some ⟨w.heap.size + 1, 8, none⟩) | 20 => undef | 21 => .pointer (some ⟨w.heap.size + 1, 9, none⟩) | 22 => undef | _ => undef : Value)) (fun _ => false) ?zeroS (fun _ l W => Bg w k m (bgQ k xs m F g) ((T.g q).r 0) ((T.g q).ep) ((T.g q).sg) l W) () ?startS ?wantS ?skipS ?stepS ?doneS
  case zeroS => exact fun _ _ h => by cases h
  case startS => exact bg_begin (SA.out.next ⟨rfl, rfl, rfl, Nat.le_refl _, fun _ _ => rfl⟩)
  case skipS => exact fun i l x W h _ => by cases h
  case wantS =>
    rintro i o9 l a9 x ho hP haft
    have hi : i < 23 := (Array.getElem?_eq_some_iff.1 ho).1
    rcases (show i = 0 ∨ i = 1 ∨ i = 2 ∨ i = 3 ∨ i = 4 ∨ i = 5 ∨ i = 6 ∨ i = 7 ∨ i = 8 ∨ i = 9 ∨ i = 10 ∨ i = 11 ∨ i = 12 ∨ i = 13 ∨ i = 14 ∨ i = 15 ∨ i = 16 ∨ i = 17 ∨ i = 18 ∨ i = 19 ∨ i = 20 ∨ i = 21 ∨ i = 22 by omega) with rfl | rfl | rfl | rfl | rfl | rfl | rfl | rfl | rfl | rfl | rfl | rfl | rfl | rfl | rfl | rfl | rfl | rfl | rfl | rfl | rfl | rfl | rfl
    · obtain rfl := Option.some.inj ho
      rfl
    · obtain rfl := Option.some.inj ho
      rfl
    · obtain rfl := Option.some.inj ho
      rfl
    · obtain rfl := Option.some.inj ho
      rfl
    · obtain rfl := Option.some.inj ho
      rfl
    · obtain rfl := Option.some.inj ho
      rfl
    · obtain rfl := Option.some.inj ho
      rfl
    · obtain rfl := Option.some.inj ho
      rfl
    · obtain rfl := Option.some.inj ho
      rfl
    · obtain rfl := Option.some.inj ho
      rfl
    · obtain rfl := Option.some.inj ho
      rfl
    · obtain rfl := Option.some.inj ho
      rfl
    · obtain rfl := Option.some.inj ho
      rfl
    · obtain rfl := Option.some.inj ho
      rfl
    · obtain rfl := Option.some.inj ho
      rfl
    · obtain rfl := Option.some.inj ho
      rfl
    · obtain rfl := Option.some.inj ho
      rfl
    · obtain rfl := Option.some.inj ho
      rfl
    · obtain rfl := Option.some.inj ho
      rfl
    · obtain rfl := Option.some.inj ho
      rfl
    · obtain rfl := Option.some.inj ho
      rfl
    · obtain rfl := Option.some.inj ho
      rfl
    · obtain rfl := Option.some.inj ho
      rfl
  case stepS =>
    rintro i o9 l a9 x W9 ho hP hkp hcd hI hl hsk haft K hK
    have hi : i < 23 := (Array.getElem?_eq_some_iff.1 ho).1
    rcases (show i = 0 ∨ i = 1 ∨ i = 2 ∨ i = 3 ∨ i = 4 ∨ i = 5 ∨ i = 6 ∨ i = 7 ∨ i = 8 ∨ i = 9 ∨ i = 10 ∨ i = 11 ∨ i = 12 ∨ i = 13 ∨ i = 14 ∨ i = 15 ∨ i = 16 ∨ i = 17 ∨ i = 18 ∨ i = 19 ∨ i = 20 ∨ i = 21 ∨ i = 22 by omega) with rfl | rfl | rfl | rfl | rfl | rfl | rfl | rfl | rfl | rfl | rfl | rfl | rfl | rfl | rfl | rfl | rfl | rfl | rfl | rfl | rfl | rfl | rfl
    · clear hsk
      obtain rfl := Option.some.inj ho
      have q2 := (hP.keep (j := 2) (by kernel_rfl)).trans G2
      go_simp
      exact hK () _ (fun _ _ => rfl) (hI.pure (by decide))
    · clear hsk
      obtain rfl := Option.some.inj ho
      have q7 := (hP.keep (j := 7) (by kernel_rfl)).trans G7
      go_simp
      exact hK () _ (fun _ _ => rfl) (hI.pure (by decide))
    · clear hsk
      obtain rfl := Option.some.inj ho
      have e0 := hP.got 0 _ 21 rfl (haft ⟨0, .data⟩ (by simp) rfl) rfl
      have e1 := hP.got 1 _ 22 rfl (haft ⟨1, .data⟩ (by simp) rfl) rfl
      try dsimp only at e0 e1
      go_simp
      exact hK () _ (fun _ _ => rfl) (hI.pure (by decide))
    · clear hsk
      obtain rfl := Option.some.inj ho
      have e2 := hP.got 2 _ 23 rfl (haft ⟨2, .data⟩ (by simp) rfl) rfl
      try dsimp only at e2
      go_simp
      exact hK () _ (fun _ _ => rfl) (hI.pure (by decide))
    · clear hsk
      obtain rfl := Option.some.inj ho
      have e3 := hP.got 3 _ 24 rfl (haft ⟨3, .data⟩ (by simp) rfl) rfl
      try dsimp only at e3
      go_simp
      exact hK () _ (fun _ _ => rfl) (hI.pure (by decide))
    · clear hsk
      obtain rfl := Option.some.inj ho
      have e4 := hP.got 4 _ 25 rfl (haft ⟨4, .data⟩ (by simp) rfl) rfl
      try dsimp only at e4
      have c9 := TRow.cell (HR.out.below hI.st.bel) ea hlt 1 (.int .i64 ((T.g q).r 0)) rfl
      go_simp
      exact hK () _ (fun _ _ => rfl) (hI.pure (by decide))
    · clear hsk
      obtain rfl := Option.some.inj ho
      have q2 := (hP.keep (j := 2) (by kernel_rfl)).trans G2
      go_simp
      exact hK () _ (fun _ _ => rfl) (hI.pure (by decide))
    · clear hsk
      obtain rfl := Option.some.inj ho
      have q7 := (hP.keep (j := 7) (by kernel_rfl)).trans G7
      go_simp
      exact hK () _ (fun _ _ => rfl) (hI.pure (by decide))
    · clear hsk
      obtain rfl := Option.some.inj ho
      have e6 := hP.got 6 _ 27 rfl (haft ⟨6, .data⟩ (by simp) rfl) rfl
      have e7 := hP.got 7 _ 28 rfl (haft ⟨7, .data⟩ (by simp) rfl) rfl
      try dsimp only at e6 e7
      go_simp
      exact hK () _ (fun _ _ => rfl) (hI.pure (by decide))
    · clear hsk
      obtain rfl := Option.some.inj ho
      have e8 := hP.got 8 _ 29 rfl (haft ⟨8, .data⟩ (by simp) rfl) rfl
      try dsimp only at e8
      go_simp
      exact hK () _ (fun _ _ => rfl) (hI.pure (by decide))
    · clear hsk
      obtain rfl := Option.some.inj ho
      have e9 := hP.got 9 _ 30 rfl (haft ⟨9, .data⟩ (by simp) rfl) rfl
      try dsimp only at e9
      have c9 := TRow.cell (HR.out.below hI.st.bel) ea hlt 8 (.int .i64 ((T.g q).ep)) rfl
      go_simp
      exact hK () _ (fun _ _ => rfl) (hI.pure (by decide))
    · clear hsk
      obtain rfl := Option.some.inj ho
      have q2 := (hP.keep (j := 2) (by kernel_rfl)).trans G2
      go_simp
      exact hK () _ (fun _ _ => rfl) (hI.pure (by decide))
    · clear hsk
      obtain rfl := Option.some.inj ho
      have q7 := (hP.keep (j := 7) (by kernel_rfl)).trans G7
      go_simp
      exact hK () _ (fun _ _ => rfl) (hI.pure (by decide))
    · clear hsk
      obtain rfl := Option.some.inj ho
      have e11 := hP.got 11 _ 32 rfl (haft ⟨11, .data⟩ (by simp) rfl) rfl
      have e12 := hP.got 12 _ 33 rfl (haft ⟨12, .data⟩ (by simp) rfl) rfl
      try dsimp only at e11 e12
      go_simp
      exact hK () _ (fun _ _ => rfl) (hI.pure (by decide))
    · clear hsk
      obtain rfl := Option.some.inj ho
      have e13 := hP.got 13 _ 34 rfl (haft ⟨13, .data⟩ (by simp) rfl) rfl
      try dsimp only at e13
      go_simp
      exact hK () _ (fun _ _ => rfl) (hI.pure (by decide))
    · clear hsk
      obtain rfl := Option.some.inj ho
      have e14 := hP.got 14 _ 35 rfl (haft ⟨14, .data⟩ (by simp) rfl) rfl
      try dsimp only at e14
      have c9 := TRow.cell (HR.out.below hI.st.bel) ea hlt 9 (.int .i64 ((T.g q).sg)) rfl
      go_simp
      exact hK () _ (fun _ _ => rfl) (hI.pure (by decide))
    · clear hsk
      obtain rfl := Option.some.inj ho
      have q4 := (hP.keep (j := 4) (by kernel_rfl)).trans G4
      go_simp
      exact hK () _ (fun _ _ => rfl) (hI.pure (by decide))
    · clear hsk
      obtain rfl := Option.some.inj ho
      have e16 := hP.got 16 _ 37 rfl (haft ⟨16, .data⟩ (by simp) rfl) rfl
      try dsimp only at e16
      go_simp
      exact hK () _ (fun _ _ => rfl) (hI.pure (by decide))
    · clear hsk
      obtain rfl := Option.some.inj ho
      have e17 := hP.got 17 _ 38 rfl (haft ⟨17, .data⟩ (by simp) rfl) rfl
      have e5 := hP.got 5 _ 26 rfl (haft ⟨5, .data⟩ (by simp) rfl) rfl
      try dsimp only at e5 e17
      exact p_store rfl (Mu.ev e17) (Mu.ev e5) (st_int (show Box _ (w.heap.size + 1) _ from hI.st.box 1 (by decide)) (show 1 < 15 by decide) ((T.g q).r 0)) (hK () _ (fun _ _ => rfl) hI.st18)
    · clear hsk
      obtain rfl := Option.some.inj ho
      have q4 := (hP.keep (j := 4) (by kernel_rfl)).trans G4
      go_simp
      exact hK () _ (fun _ _ => rfl) (hI.pure (by decide))
    · clear hsk
      obtain rfl := Option.some.inj ho
      have e19 := hP.got 19 _ 39 rfl (haft ⟨19, .data⟩ (by simp) rfl) rfl
      have e10 := hP.got 10 _ 31 rfl (haft ⟨10, .data⟩ (by simp) rfl) rfl
      try dsimp only at e10 e19
      exact p_store rfl (Mu.ev e19) (Mu.ev e10) (st_int (show Box _ (w.heap.size + 1) _ from hI.st.box 1 (by decide)) (show 8 < 15 by decide) ((T.g q).ep)) (hK () _ (fun _ _ => rfl) hI.st20)
    · clear hsk
      obtain rfl := Option.some.inj ho
      have q4 := (hP.keep (j := 4) (by kernel_rfl)).trans G4
      go_simp
      exact hK () _ (fun _ _ => rfl) (hI.pure (by decide))
    · clear hsk
      obtain rfl := Option.some.inj ho
      have e21 := hP.got 21 _ 40 rfl (haft ⟨21, .data⟩ (by simp) rfl) rfl
      have e15 := hP.got 15 _ 36 rfl (haft ⟨15, .data⟩ (by simp) rfl) rfl
      try dsimp only at e15 e21
      exact p_store rfl (Mu.ev e21) (Mu.ev e15) (st_int (show Box _ (w.heap.size + 1) _ from hI.st.box 1 (by decide)) (show 9 < 15 by decide) ((T.g q).sg)) (hK () _ (fun _ _ => rfl) hI.st22)
  case doneS =>
    rintro l a9 x W9 hP hI hall
    have SB := Lib.hid (hI.done hall)
    obtain rfl := pl_full hP (by rw [TZ]; kernel_rfl) hall [some 21, some 22, some 23, some 24, some 25, some 26, some 27, some 28, some 29, some 30, some 31, some 32, some 33, some 34, some 35, some 36, some 37, some 38, none, some 39, none, some 40, none] (by rfl)
    clear hP hI hall TZ G2 G7 G4
    rw [HA.out]
    simp only [putD, Act.put, List.setIfInBounds_toArray, List.set_cons_succ, List.set_cons_zero]
    clear HA
    clear SA
    go_wp2_with (first
      | (refine w_load (ldTb (show Box _ (w.heap.size + 1) (tv (bt m true (reg0 ((T.g q).r 0)) (T.g q).ep (T.g q).sg 0 0 0 0)) from SB.out.box 1 (by decide))) rfl rfl rfl rfl ?_)
      | (refine w3_putT SB.out 2 (by decide) (bt m true (reg0 ((T.g q).r 0)) (T.g q).ep (T.g q).sg 0 0 0 0) (c' := c3 (kv k) (tv (bt m true (reg0 ((T.g q).r 0)) (T.g q).ep (T.g q).sg 0 0 0 0)) (tv (bt m true (reg0 ((T.g q).r 0)) (T.g q).ep (T.g q).sg 0 0 0 0))) rfl (all3 ⟨rfl, rfl, rfl⟩) rfl rfl rfl rfl rfl ?_; intro WZ hZ; have SZ := Lib.hid hZ; clear hZ SB))
    refine bodyPost_ret (v := (.agg #[.bool (bt m true (reg0 ((T.g q).r 0)) (T.g q).ep (T.g q).sg 0 0 0 0).lv, .int .i64 ((bt m true (reg0 ((T.g q).r 0)) (T.g q).ep (T.g q).sg 0 0 0 0).r 0), .int .i64 ((bt m true (reg0 ((T.g q).r 0)) (T.g q).ep (T.g q).sg 0 0 0 0).r 1), .int .i64 ((bt m true (reg0 ((T.g q).r 0)) (T.g q).ep (T.g q).sg 0 0 0 0).r 2), .int .i64 ((bt m true (reg0 ((T.g q).r 0)) (T.g q).ep (T.g q).sg 0 0 0 0).r 3), .slice ((bt m true (reg0 ((T.g q).r 0)) (T.g q).ep (T.g q).sg 0 0 0 0).u 0).a ((bt m true (reg0 ((T.g q).r 0)) (T.g q).ep (T.g q).sg 0 0 0 0).u 0).n ((bt m true (reg0 ((T.g q).r 0)) (T.g q).ep (T.g q).sg 0 0 0 0).u 0).c, .slice ((bt m true (reg0 ((T.g q).r 0)) (T.g q).ep (T.g q).sg 0 0 0 0).u 1).a ((bt m true (reg0 ((T.g q).r 0)) (T.g q).ep (T.g q).sg 0 0 0 0).u 1).n ((bt m true (reg0 ((T.g q).r 0)) (T.g q).ep (T.g q).sg 0 0 0 0).u 1).c, .slice ((bt m true (reg0 ((T.g q).r 0)) (T.g q).ep (T.g q).sg 0 0 0 0).u 2).a ((bt m true (reg0 ((T.g q).r 0)) (T.g q).ep (T.g q).sg 0 0 0 0).u 2).n ((bt m true (reg0 ((T.g q).r 0)) (T.g q).ep (T.g q).sg 0 0 0 0).u 2).c, .int .i64 (bt m true (reg0 ((T.g q).r 0)) (T.g q).ep (T.g q).sg 0 0 0 0).ep, .int .i64 (bt m true (reg0 ((T.g q).r 0)) (T.g q).ep (T.g q).sg 0 0 0 0).sg, .int .i64 (bt m true (reg0 ((T.g q).r 0)) (T.g q).ep (T.g q).sg 0 0 0 0).rt, .slice (bt m true (reg0 ((T.g q).r 0)) (T.g q).ep (T.g q).sg 0 0 0 0).o.a (bt m true (reg0 ((T.g q).r 0)) (T.g q).ep (T.g q).sg 0 0 0 0).o.n (bt m true (reg0 ((T.g q).r 0)) (T.g q).ep (T.g q).sg 0 0 0 0).o.c, .int .i64 (bt m true (reg0 ((T.g q).r 0)) (T.g q).ep (T.g q).sg 0 0 0 0).pc, .int .i64 (bt m true (reg0 ((T.g q).r 0)) (T.g q).ep (T.g q).sg 0 0 0 0).x, .int .i64 (bt m true (reg0 ((T.g q).r 0)) (T.g q).ep (T.g q).sg 0 0 0 0).y])) (res_beg rfl (show Box _ (w.heap.size + 2) (tv (bt m true (reg0 ((T.g q).r 0)) (T.g q).ep (T.g q).sg 0 0 0 0)) from SZ.out.box 2 (by decide))) rfl ?_
    exact bg_end SZ.out M3.out V2.out (HB.out m).symm
theorem begin_any (k : Sh.Ks) (xs : List Int) (T : Tl) (t : Ts) (F : Nat → List Int) (g : Nat → O4) (w : World) (hk : Sh.WRow w w.heap.size k xs) (hT : Th w w.heap.size t F g) (hr : TRow w w.heap.size T.s.a T.s.n T.g) (hn : T.s.n ≤ 1000000) (hu : ∀ j, j < 3 → (t.u j).n ≤ 2000000) (ho : t.o.n ≤ 100000) : Calls Tryz.prog 31 #[(.agg #[.int .i64 k.ph, .int .i64 k.ep, .bool k.mj, .slice k.wk.a k.wk.n k.wk.c, .bool k.ov, .int .i64 k.pa, .int .i64 k.pf, .int .i64 k.ps, .int .i64 k.pc, .bool k.me]), (.agg #[.bool t.lv, .int .i64 (t.r 0), .int .i64 (t.r 1), .int .i64 (t.r 2), .int .i64 (t.r 3), .slice (t.u 0).a (t.u 0).n (t.u 0).c, .slice (t.u 1).a (t.u 1).n (t.u 1).c, .slice (t.u 2).a (t.u 2).n (t.u 2).c, .int .i64 t.ep, .int .i64 t.sg, .int .i64 t.rt, .slice t.o.a t.o.n t.o.c, .int .i64 t.pc, .int .i64 t.x, .int .i64 t.y]), .slice T.s.a T.s.n T.s.c] w (BgOut w k T t F g) := by
  rcases idxF_spec lvB T.g T.s.n 0 with ⟨e, _⟩ | ⟨i, e, _, h2, _, _⟩
  · exact begin_none k xs T t F g w hk hT hr hn hu ho e
  · exact begin_some k xs T t F g w hk hT hr hn hu ho i e (by omega)
end Go.Proofs.YtgmkomnoiffapaaGreatDoor.Ha
