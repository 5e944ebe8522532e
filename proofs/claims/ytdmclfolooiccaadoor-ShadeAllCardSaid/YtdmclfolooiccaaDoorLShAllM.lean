/-
  ShadeAll's four boxes; what its two regions that store have carried out.
-/
import Derived.Test.YtdmclfolooiccaaDoorHpLG
namespace Go.Proofs.YtdmclfolooiccaaDoor.Sh
open Go.Proofs.YtdmclfolooiccaaDoor
open Go.RowKit
set_option maxRecDepth 100000

/-- A slice lies not in the four boxes. -/
def Clr (lo : Nat) (v : Ls.Sl) : Prop := 0 < v.n → ∀ x, v.a = some x → x.block < lo ∨ lo + 4 ≤ x.block
structure ClrH (lo : Nat) (t : Hs) : Prop where
  w : Clr lo t.w
  p : Clr lo t.p
  u : ∀ j, j < 3 → Clr lo (t.u j)
  c : Clr lo t.c
/-- A heap and a collector in boxes of their own. -/
structure Pr (W : World) (lo b : Nat) (t : Hs) (D : Hd_) (k : Ks) (v : Ls.Sl) (o : Bool) (xs : List Int) : Prop where
  hb : HBox W b t
  h6 : T6 W b
  cb : CBox W (b + 1) (kw k v o)
  c10 : T10 W (b + 1)
  hp : Hp W W.heap.size t D
  wr : Row W W.heap.size v.a v.n xs
  ch : ClrH lo t
  cv : Clr lo v
section
variable {w W W' w9 : World} {lo b : Nat} {s t t2 t0 : Hs} {d D D2 : Hd_} {k k0 k1 : Ks} {v v2 : Ls.Sl} {o o2 : Bool} {xs x2 : List Int} {l10 l11 : Bool}
theorem T6.next (h : T6 W b) (hb : Below W.heap.size W W') : T6 W' b := h.same (hb.block b h.lt) hb.size
theorem Pr.next (h : Pr W lo b t D k v o xs) (hb : Below W.heap.size W W') : Pr W' lo b t D k v o xs :=
  ⟨h.hb.next hb, h.h6.next hb, h.cb.next hb, h.c10.next hb, h.hp.next hb, (Row.below h.wr hb).more hb.size, h.ch, h.cv⟩
theorem row_clr {v : Ls.Sl} {xs : List Int} (h : Row W W.heap.size v.a v.n xs) (hc : Clr lo v) (hs : ∀ g, (g < lo ∨ lo + 4 ≤ g) → W'.heap[g]? = W.heap[g]?) (hl : W.heap.size ≤ W'.heap.size) : Row W' W'.heap.size v.a v.n xs :=
  (row_same h fun hn x hx => hs _ (hc hn x hx)).more hl
theorem hp_clr (h : Hp W W.heap.size t D) (hc : ClrH lo t) (hs : ∀ g, (g < lo ∨ lo + 4 ≤ g) → W'.heap[g]? = W.heap[g]?) (hl : W.heap.size ≤ W'.heap.size) : Hp W' W'.heap.size t D := by
  refine Hp.more ?_ hl
  refine ⟨row_same h.words fun hn x hx => hs _ (hc.w hn x hx), fun h0 => ?_, fun j hj => ⟨row_same (h.free j hj).1 fun hn x hx => hs _ (hc.u j hj hn x hx), (h.free j hj).2⟩, fun h0 => ?_⟩
  · obtain ⟨b', off, e, hlt, hcc⟩ := h.pages h0
    have hb' := hs b' (hc.p h0 _ e)
    exact ⟨b', off, e, hlt, fun i hi => ⟨(World.cell?_of_block (a := ⟨b', off + i * 2, none⟩) hb').trans (hcc i hi).1, (World.cell?_of_block (a := ⟨b', off + i * 2 + 1, none⟩) hb').trans (hcc i hi).2⟩⟩
  · obtain ⟨b', off, e, hlt, hcc⟩ := h.cards h0
    exact ⟨b', off, e, hlt, fun i hi => (World.cell?_of_block (a := ⟨b', off + i, none⟩) (hs b' (hc.c h0 _ e))).trans (hcc i hi)⟩
/-- The other pair was turned. -/
theorem Pr.stay (h : Pr W lo b t D k v o xs) (hs : ∀ g, (g < lo ∨ lo + 4 ≤ g) → W'.heap[g]? = W.heap[g]?) (h1 : W'.heap[b]? = W.heap[b]?) (h2 : W'.heap[b + 1]? = W.heap[b + 1]?) (hl : W.heap.size ≤ W'.heap.size) : Pr W' lo b t D k v o xs :=
  ⟨HBox.same h.hb h1 hl, h.h6.same h1 hl, h.cb.same h2 hl, h.c10.same h2 hl, hp_clr h.hp h.ch hs hl, row_clr h.wr h.cv hs hl, h.ch, h.cv⟩
/-- How far a region has come that stores what Shade told. -/
structure Stg (w9 wc : World) (b : Nat) (l10 l11 : Bool) (t0 t : Hs) (k0 k1 : Ks) : Prop where
  sz : w9.heap.size = wc.heap.size
  bel : Below b w9 wc
  oth : ∀ g, ¬ g = b → ¬ g = b + 1 → wc.heap[g]? = w9.heap[g]?
  hb : HBox wc b (if l10 = true then t else t0)
  h6 : T6 wc b
  cb : CBox wc (b + 1) (if l11 = true then k1 else k0)
  c10 : T10 wc (b + 1)
theorem stg_start (h : Pr w9 lo b t0 D k v o xs) : Stg w9 w9 b false false t0 t (kw k v o) k1 := ⟨rfl, Below.refl _ _, fun _ _ _ => rfl, h.hb, h.h6, h.cb, h.c10⟩
theorem Stg.did10 {wc : World} (h : Stg w9 wc b l10 l11 t0 t k0 k1) : Stg w9 (put6 wc b (.slice t.w.a t.w.n t.w.c) (.slice t.p.a t.p.n t.p.c) (.slice (t.u 0).a (t.u 0).n (t.u 0).c) (.slice (t.u 1).a (t.u 1).n (t.u 1).c) (.slice (t.u 2).a (t.u 2).n (t.u 2).c) (.slice t.c.a t.c.n t.c.c)) b true l11 t0 t k0 k1 := by
  have hs : ∀ g, ¬ g = b → (put6 wc b (.slice t.w.a t.w.n t.w.c) (.slice t.p.a t.p.n t.p.c) (.slice (t.u 0).a (t.u 0).n (t.u 0).c) (.slice (t.u 1).a (t.u 1).n (t.u 1).c) (.slice (t.u 2).a (t.u 2).n (t.u 2).c) (.slice t.c.a t.c.n t.c.c)).heap[g]? = wc.heap[g]? := fun g hg => put6_other _ _ _ _ _ _ _ _ hg
  have hz : wc.heap.size = (put6 wc b (.slice t.w.a t.w.n t.w.c) (.slice t.p.a t.p.n t.p.c) (.slice (t.u 0).a (t.u 0).n (t.u 0).c) (.slice (t.u 1).a (t.u 1).n (t.u 1).c) (.slice (t.u 2).a (t.u 2).n (t.u 2).c) (.slice t.c.a t.c.n t.c.c)).heap.size := (put6_size _ _ _ _ _ _ _ _).symm
  obtain ⟨k0, k1, k2, k3, k4, k5⟩ := put6_t6 h.h6 (.slice t.w.a t.w.n t.w.c) (.slice t.p.a t.p.n t.p.c) (.slice (t.u 0).a (t.u 0).n (t.u 0).c) (.slice (t.u 1).a (t.u 1).n (t.u 1).c) (.slice (t.u 2).a (t.u 2).n (t.u 2).c) (.slice t.c.a t.c.n t.c.c)
  exact ⟨h.sz.trans hz, below_put6 h.bel (Nat.le_refl _) _ _ _ _ _ _, fun g h1 h2 => (hs g h1).trans (h.oth g h1 h2), ⟨k0, k1, k2, k3, k4, k5, by rw [← hz]; exact h.h6.lt⟩, h.h6.put _ _ _ _ _ _, h.cb.same (hs _ (by omega)) (Nat.le_of_eq hz), h.c10.same (hs _ (by omega)) (Nat.le_of_eq hz)⟩
theorem Stg.did11 {wc : World} (h : Stg w9 wc b l10 l11 t0 t k0 k) : Stg w9 (put10 wc (b + 1) (.int .i64 k.ph) (.int .i64 k.ep) (.bool k.mj) (.slice k.wk.a k.wk.n k.wk.c) (.bool k.ov) (.int .i64 k.pa) (.int .i64 k.pf) (.int .i64 k.ps) (.int .i64 k.pc) (.bool k.me)) b l10 true t0 t k0 k := by
  have hs : ∀ g, ¬ g = b + 1 → (put10 wc (b + 1) (.int .i64 k.ph) (.int .i64 k.ep) (.bool k.mj) (.slice k.wk.a k.wk.n k.wk.c) (.bool k.ov) (.int .i64 k.pa) (.int .i64 k.pf) (.int .i64 k.ps) (.int .i64 k.pc) (.bool k.me)).heap[g]? = wc.heap[g]? := fun g hg => put10_other _ _ _ _ _ _ _ _ _ _ _ _ hg
  have hz : wc.heap.size = (put10 wc (b + 1) (.int .i64 k.ph) (.int .i64 k.ep) (.bool k.mj) (.slice k.wk.a k.wk.n k.wk.c) (.bool k.ov) (.int .i64 k.pa) (.int .i64 k.pf) (.int .i64 k.ps) (.int .i64 k.pc) (.bool k.me)).heap.size := (put10_size _ _ _ _ _ _ _ _ _ _ _ _).symm
  exact ⟨h.sz.trans hz, below_put10 h.bel (by omega) _ _ _ _ _ _ _ _ _ _, fun g h1 h2 => (hs g h2).trans (h.oth g h1 h2), HBox.same h.hb (hs _ (by omega)) (Nat.le_of_eq hz), h.h6.same (hs _ (by omega)) (Nat.le_of_eq hz), put10_box h.c10 k, h.c10.put _ _ _ _ _ _ _ _ _ _⟩
/-- .. its end. -/
theorem pr_put {wc : World} (hS : Stg w9 wc b true true t0 t2 k0 (kw k v2 o2)) (hlo : lo + 4 ≤ W.heap.size) (hb0 : lo ≤ b) (hb1 : b + 2 ≤ lo + 4) (hp : Hp w9 w9.heap.size t2 D2) (nw : News W.heap.size t2) (own : w9.ownsRow W.heap.size 3 1 (.slice v2.a v2.n v2.c) v2.n (x2.map (Value.int .i64))) : Pr wc lo b t2 D2 k v2 o2 x2 := by
  have hl := Nat.le_of_eq hS.sz
  have hr := row_of own
  have nv : New W.heap.size v2 := fun hn x hx => by
    have := (own.lt x.block (by rw [Ls.ownBlock_slice, hx]; rfl)).1
    omega
  refine ⟨hS.hb, hS.h6, hS.cb, hS.c10, nw.kept hp (fun g h1 _ => hS.oth g (by omega) (by omega)) hl, (row_same hr fun hn x hx => ?_).more hl, ⟨fun h0 x hx => .inr (by have := nw.w h0 x hx; omega), fun h0 x hx => .inr (by have := nw.p h0 x hx; omega), fun j hj h0 x hx => .inr (by have := nw.u j hj h0 x hx; omega), fun h0 x hx => .inr (by have := nw.c h0 x hx; omega)⟩, fun h0 x hx => .inr (by have := nv h0 x hx; omega)⟩
  have := nv hn x hx
  exact hS.oth _ (by omega) (by omega)
/-- What has been carried out of such a region. -/
structure RK (wr wc : World) (b : Nat) (lc l7 l8 l9 ls lt : Bool) (x71 x64 x72 x73 : Value) (s t0 : Hs) (k0 k : Ks) (D2 : Hd_) (o : Bool) (x2 : List Int) (t : Hs) (v : Ls.Sl) (w9 : World) : Prop where
  pre : lc = false → Below wr.heap.size wr wc ∧ l7 = false ∧ l8 = false ∧ l9 = false ∧ ls = false ∧ lt = false
  c6 : lc = true → x71 = .tuple #[(.agg #[.slice t.w.a t.w.n t.w.c, .slice t.p.a t.p.n t.p.c, .slice (t.u 0).a (t.u 0).n (t.u 0).c, .slice (t.u 1).a (t.u 1).n (t.u 1).c, .slice (t.u 2).a (t.u 2).n (t.u 2).c, .slice t.c.a t.c.n t.c.c]), (.agg #[.int .i64 k.ph, .int .i64 k.ep, .bool k.mj, .slice v.a v.n v.c, .bool o, .int .i64 k.pa, .int .i64 k.pf, .int .i64 k.ps, .int .i64 k.pc, .bool k.me])] ∧ Below wr.heap.size wr w9 ∧ Hp w9 w9.heap.size t D2 ∧ Lens s t ∧ News wr.heap.size t ∧ w9.ownsRow wr.heap.size 3 1 (.slice v.a v.n v.c) v.n (x2.map (Value.int .i64)) ∧ Stg w9 wc b ls lt t0 t k0 (kw k v o)
  c7 : l7 = true → x64 = .tuple #[(.agg #[.slice t.w.a t.w.n t.w.c, .slice t.p.a t.p.n t.p.c, .slice (t.u 0).a (t.u 0).n (t.u 0).c, .slice (t.u 1).a (t.u 1).n (t.u 1).c, .slice (t.u 2).a (t.u 2).n (t.u 2).c, .slice t.c.a t.c.n t.c.c]), (.agg #[.int .i64 k.ph, .int .i64 k.ep, .bool k.mj, .slice v.a v.n v.c, .bool o, .int .i64 k.pa, .int .i64 k.pf, .int .i64 k.ps, .int .i64 k.pc, .bool k.me])]
  c8 : l8 = true → x72 = (.agg #[.slice t.w.a t.w.n t.w.c, .slice t.p.a t.p.n t.p.c, .slice (t.u 0).a (t.u 0).n (t.u 0).c, .slice (t.u 1).a (t.u 1).n (t.u 1).c, .slice (t.u 2).a (t.u 2).n (t.u 2).c, .slice t.c.a t.c.n t.c.c])
  c9 : l9 = true → x73 = (.agg #[.int .i64 k.ph, .int .i64 k.ep, .bool k.mj, .slice v.a v.n v.c, .bool o, .int .i64 k.pa, .int .i64 k.pf, .int .i64 k.ps, .int .i64 k.pc, .bool k.me])
theorem RK.start {y1 y2 y3 y4 : Value} : RK W W.drew b false false false false false false y1 y2 y3 y4 s t0 k0 k D2 o x2 t v w9 :=
  ⟨(fun _ => ⟨below_drawn' (Below.refl _ _) 1, rfl, rfl, rfl, rfl, rfl⟩), (fun h => by cases h), (fun h => by cases h), (fun h => by cases h), (fun h => by cases h)⟩
theorem RK.call {wr wc : World} {y1 y2 y3 y4 : Value} {lc l7 l8 l9 ls lt : Bool} (h : RK wr wc b lc l7 l8 l9 ls lt y1 y2 y3 y4 s t0 k0 k D2 o x2 t v W) (hc : lc = false) (hPr : Pr w9 lo b t0 D k1 v2 o2 xs) (hk0 : k0 = kw k1 v2 o2) (hb : Below wc.heap.size wc w9) (hp : Hp w9 w9.heap.size t2 D2) (hl : Lens s t2) (nw : News wc.heap.size t2) {v3 : Ls.Sl} (own : w9.ownsRow wc.heap.size 3 1 (.slice v3.a v3.n v3.c) v3.n (x2.map (Value.int .i64))) :
    RK wr w9 b true l7 l8 l9 ls lt (.tuple #[(.agg #[.slice t2.w.a t2.w.n t2.w.c, .slice t2.p.a t2.p.n t2.p.c, .slice (t2.u 0).a (t2.u 0).n (t2.u 0).c, .slice (t2.u 1).a (t2.u 1).n (t2.u 1).c, .slice (t2.u 2).a (t2.u 2).n (t2.u 2).c, .slice t2.c.a t2.c.n t2.c.c]), (.agg #[.int .i64 k.ph, .int .i64 k.ep, .bool k.mj, .slice v3.a v3.n v3.c, .bool o, .int .i64 k.pa, .int .i64 k.pf, .int .i64 k.ps, .int .i64 k.pc, .bool k.me])]) y2 y3 y4 s t0 k0 k D2 o x2 t2 v3 w9 := by
  obtain ⟨hbl, e7, e8, e9, es, et⟩ := h.pre hc
  have hz := hbl.size
  subst e7 e8 e9 es et hk0
  exact ⟨(fun h => by cases h), fun _ => ⟨rfl, hbl.trans (hb.mono hz), hp, hl, news_less nw hz, own_less' own hz, stg_start hPr⟩, (fun h => by cases h), (fun h => by cases h), (fun h => by cases h)⟩
section
variable {wr wc : World} {y1 y2 y3 y4 : Value} {lc l7 l8 l9 ls lt : Bool}
theorem RK.lc_of (h : RK wr wc b lc l7 l8 l9 ls lt y1 y2 y3 y4 s t0 k0 k D2 o x2 t v w9) (hx : l7 = true ∨ l8 = true ∨ l9 = true) : lc = true := by
  cases lc
  · obtain ⟨_, e7, e8, e9, _⟩ := h.pre rfl
    rcases hx with e | e | e
    · rw [e] at e7; cases e7
    · rw [e] at e8; cases e8
    · rw [e] at e9; cases e9
  · rfl
theorem RK.did7 (h : RK wr wc b lc l7 l8 l9 ls lt y1 y2 y3 y4 s t0 k0 k D2 o x2 t v w9) (hc : lc = true) : RK wr wc b lc true l8 l9 ls lt y1 (.tuple #[(.agg #[.slice t.w.a t.w.n t.w.c, .slice t.p.a t.p.n t.p.c, .slice (t.u 0).a (t.u 0).n (t.u 0).c, .slice (t.u 1).a (t.u 1).n (t.u 1).c, .slice (t.u 2).a (t.u 2).n (t.u 2).c, .slice t.c.a t.c.n t.c.c]), (.agg #[.int .i64 k.ph, .int .i64 k.ep, .bool k.mj, .slice v.a v.n v.c, .bool o, .int .i64 k.pa, .int .i64 k.pf, .int .i64 k.ps, .int .i64 k.pc, .bool k.me])]) y3 y4 s t0 k0 k D2 o x2 t v w9 := ⟨(fun h => by rw [hc] at h; cases h), h.c6, fun _ => rfl, h.c8, h.c9⟩
theorem RK.did8 (h : RK wr wc b lc l7 l8 l9 ls lt y1 y2 y3 y4 s t0 k0 k D2 o x2 t v w9) (hc : lc = true) : RK wr wc b lc l7 true l9 ls lt y1 y2 (.agg #[.slice t.w.a t.w.n t.w.c, .slice t.p.a t.p.n t.p.c, .slice (t.u 0).a (t.u 0).n (t.u 0).c, .slice (t.u 1).a (t.u 1).n (t.u 1).c, .slice (t.u 2).a (t.u 2).n (t.u 2).c, .slice t.c.a t.c.n t.c.c]) y4 s t0 k0 k D2 o x2 t v w9 := ⟨(fun h => by rw [hc] at h; cases h), h.c6, h.c7, fun _ => rfl, h.c9⟩
theorem RK.did9 (h : RK wr wc b lc l7 l8 l9 ls lt y1 y2 y3 y4 s t0 k0 k D2 o x2 t v w9) (hc : lc = true) : RK wr wc b lc l7 l8 true ls lt y1 y2 y3 (.agg #[.int .i64 k.ph, .int .i64 k.ep, .bool k.mj, .slice v.a v.n v.c, .bool o, .int .i64 k.pa, .int .i64 k.pf, .int .i64 k.ps, .int .i64 k.pc, .bool k.me]) s t0 k0 k D2 o x2 t v w9 := ⟨(fun h => by rw [hc] at h; cases h), h.c6, h.c7, h.c8, fun _ => rfl⟩
theorem RK.did10 (h : RK wr wc b lc l7 l8 l9 ls lt y1 y2 y3 y4 s t0 k0 k D2 o x2 t v w9) (hc : lc = true) : RK wr (put6 wc b (.slice t.w.a t.w.n t.w.c) (.slice t.p.a t.p.n t.p.c) (.slice (t.u 0).a (t.u 0).n (t.u 0).c) (.slice (t.u 1).a (t.u 1).n (t.u 1).c) (.slice (t.u 2).a (t.u 2).n (t.u 2).c) (.slice t.c.a t.c.n t.c.c)) b lc l7 l8 l9 true lt y1 y2 y3 y4 s t0 k0 k D2 o x2 t v w9 :=
  ⟨(fun h => by rw [hc] at h; cases h), fun _ => by
    obtain ⟨a1, a2, a3, a4, a5, a6, a7⟩ := h.c6 hc
    exact ⟨a1, a2, a3, a4, a5, a6, a7.did10⟩, h.c7, h.c8, h.c9⟩
theorem RK.did11 (h : RK wr wc b lc l7 l8 l9 ls lt y1 y2 y3 y4 s t0 k0 k D2 o x2 t v w9) (hc : lc = true) : RK wr (put10 wc (b + 1) (.int .i64 k.ph) (.int .i64 k.ep) (.bool k.mj) (.slice v.a v.n v.c) (.bool o) (.int .i64 k.pa) (.int .i64 k.pf) (.int .i64 k.ps) (.int .i64 k.pc) (.bool k.me)) b lc l7 l8 l9 ls true y1 y2 y3 y4 s t0 k0 k D2 o x2 t v w9 :=
  ⟨(fun h => by rw [hc] at h; cases h), fun _ => by
    obtain ⟨a1, a2, a3, a4, a5, a6, a7⟩ := h.c6 hc
    exact ⟨a1, a2, a3, a4, a5, a6, Stg.did11 (k := kw k v o) a7⟩, h.c7, h.c8, h.c9⟩
end
/-- What the law holds behind its four boxes. -/
structure Al (W5 W : World) (k : Ks) (tk : Hs) (dk : Hd_) (vk : Ls.Sl) (ok : Bool) (xk : List Int) (tm : Hs) (dm : Hd_) (vm : Ls.Sl) (om : Bool) (xm : List Int) : Prop where
  bel : Below W5.heap.size W5 W
  big : W5.heap.size + 4 ≤ W.heap.size
  pk : Pr W W5.heap.size W5.heap.size tk dk k vk ok xk
  pm : Pr W W5.heap.size (W5.heap.size + 1 + 1) tm dm k vm om xm
section
variable {W5 W W' w9 wc : World} {k : Ks} {tk tm t2 : Hs} {dk dm D2 : Hd_} {vk vm v2 : Ls.Sl} {ok om o2 : Bool} {xk xm x2 : List Int}
theorem Al.next (h : Al W5 W k tk dk vk ok xk tm dm vm om xm) (hb : Below W.heap.size W W') : Al W5 W' k tk dk vk ok xk tm dm vm om xm :=
  ⟨h.bel.trans (hb.mono h.bel.size), Nat.le_trans h.big hb.size, h.pk.next hb, h.pm.next hb⟩
theorem stg_below {b : Nat} {l10 l11 : Bool} {t0 t : Hs} {k0 k1 : Ks} {W0 : World} (hS : Stg w9 wc b l10 l11 t0 t k0 k1) (h : Below W5.heap.size W0 w9) (hb : W5.heap.size ≤ b) : Below W5.heap.size W0 wc :=
  h.trans (hS.bel.mono hb)
theorem al_putk (h : Al W5 W k tk dk vk ok xk tm dm vm om xm) (hb : Below W.heap.size W w9) (hp : Hp w9 w9.heap.size t2 D2) (nw : News W.heap.size t2) (own : w9.ownsRow W.heap.size 3 1 (.slice v2.a v2.n v2.c) v2.n (x2.map (Value.int .i64))) (hS : Stg w9 wc W5.heap.size true true tk t2 (kw k vk ok) (kw k v2 o2)) : Al W5 wc k t2 D2 v2 o2 x2 tm dm vm om xm := by
  have g := h.next hb
  have hl := Nat.le_of_eq hS.sz
  exact ⟨stg_below hS g.bel (Nat.le_refl _), Nat.le_trans g.big hl, pr_put hS h.big (Nat.le_refl _) (by omega) hp nw own, g.pm.stay (fun i hi => hS.oth i (by omega) (by omega)) (hS.oth _ (by omega) (by omega)) (hS.oth _ (by omega) (by omega)) hl⟩
theorem al_putm (h : Al W5 W k tk dk vk ok xk tm dm vm om xm) (hb : Below W.heap.size W w9) (hp : Hp w9 w9.heap.size t2 D2) (nw : News W.heap.size t2) (own : w9.ownsRow W.heap.size 3 1 (.slice v2.a v2.n v2.c) v2.n (x2.map (Value.int .i64))) (hS : Stg w9 wc (W5.heap.size + 1 + 1) true true tm t2 (kw k vm om) (kw k v2 o2)) : Al W5 wc k tk dk vk ok xk t2 D2 v2 o2 x2 := by
  have g := h.next hb
  have hl := Nat.le_of_eq hS.sz
  exact ⟨stg_below hS g.bel (by omega), Nat.le_trans g.big hl, g.pk.stay (fun i hi => hS.oth i (by omega) (by omega)) (hS.oth _ (by omega) (by omega)) (hS.oth _ (by omega) (by omega)) hl, pr_put hS h.big (by omega) (by omega) hp nw own⟩
theorem clr_row {a : Option Addr} {n c : Nat} {xs : List Int} (h : Row W5 W5.heap.size a n xs) : Clr W5.heap.size ⟨a, n, c⟩ := fun hn x hx => by
  obtain ⟨b, off, e, hlt, _⟩ := h.2 hn
  rw [show a = some x from hx] at e
  cases e
  exact .inl hlt
theorem al_start {s : Hs} {d : Hd_} {xs : List Int} {y1 y2 y3 y4 : TypeId} (hp : Hp W5 W5.heap.size s d) (hk : WRow W5 W5.heap.size k xs) (hW : W = (((W5.alloc (.cells #[.slice s.w.a s.w.n s.w.c, .slice s.p.a s.p.n s.p.c, .slice (s.u 0).a (s.u 0).n (s.u 0).c, .slice (s.u 1).a (s.u 1).n (s.u 1).c, .slice (s.u 2).a (s.u 2).n (s.u 2).c, .slice s.c.a s.c.n s.c.c] y1)).alloc (.cells #[.int .i64 k.ph, .int .i64 k.ep, .bool k.mj, .slice k.wk.a k.wk.n k.wk.c, .bool k.ov, .int .i64 k.pa, .int .i64 k.pf, .int .i64 k.ps, .int .i64 k.pc, .bool k.me] y2)).alloc (.cells #[.slice s.w.a s.w.n s.w.c, .slice s.p.a s.p.n s.p.c, .slice (s.u 0).a (s.u 0).n (s.u 0).c, .slice (s.u 1).a (s.u 1).n (s.u 1).c, .slice (s.u 2).a (s.u 2).n (s.u 2).c, .slice s.c.a s.c.n s.c.c] y3)).alloc (.cells #[.int .i64 k.ph, .int .i64 k.ep, .bool k.mj, .slice k.wk.a k.wk.n k.wk.c, .bool k.ov, .int .i64 k.pa, .int .i64 k.pf, .int .i64 k.ps, .int .i64 k.pc, .bool k.me] y4)) : Al W5 W k s d k.wk k.ov xs s d k.wk k.ov xs := by
  have z1 : (W5.alloc (.cells #[.slice s.w.a s.w.n s.w.c, .slice s.p.a s.p.n s.p.c, .slice (s.u 0).a (s.u 0).n (s.u 0).c, .slice (s.u 1).a (s.u 1).n (s.u 1).c, .slice (s.u 2).a (s.u 2).n (s.u 2).c, .slice s.c.a s.c.n s.c.c] y1)).heap.size = W5.heap.size + 1 := World.size_alloc _ _
  have z2 : ((W5.alloc (.cells #[.slice s.w.a s.w.n s.w.c, .slice s.p.a s.p.n s.p.c, .slice (s.u 0).a (s.u 0).n (s.u 0).c, .slice (s.u 1).a (s.u 1).n (s.u 1).c, .slice (s.u 2).a (s.u 2).n (s.u 2).c, .slice s.c.a s.c.n s.c.c] y1)).alloc (.cells #[.int .i64 k.ph, .int .i64 k.ep, .bool k.mj, .slice k.wk.a k.wk.n k.wk.c, .bool k.ov, .int .i64 k.pa, .int .i64 k.pf, .int .i64 k.ps, .int .i64 k.pc, .bool k.me] y2)).heap.size = W5.heap.size + 1 + 1 := by rw [World.size_alloc, z1]
  have z3 : (((W5.alloc (.cells #[.slice s.w.a s.w.n s.w.c, .slice s.p.a s.p.n s.p.c, .slice (s.u 0).a (s.u 0).n (s.u 0).c, .slice (s.u 1).a (s.u 1).n (s.u 1).c, .slice (s.u 2).a (s.u 2).n (s.u 2).c, .slice s.c.a s.c.n s.c.c] y1)).alloc (.cells #[.int .i64 k.ph, .int .i64 k.ep, .bool k.mj, .slice k.wk.a k.wk.n k.wk.c, .bool k.ov, .int .i64 k.pa, .int .i64 k.pf, .int .i64 k.ps, .int .i64 k.pc, .bool k.me] y2)).alloc (.cells #[.slice s.w.a s.w.n s.w.c, .slice s.p.a s.p.n s.p.c, .slice (s.u 0).a (s.u 0).n (s.u 0).c, .slice (s.u 1).a (s.u 1).n (s.u 1).c, .slice (s.u 2).a (s.u 2).n (s.u 2).c, .slice s.c.a s.c.n s.c.c] y3)).heap.size = W5.heap.size + 1 + 1 + 1 := by rw [World.size_alloc, z2]
  have z4 : W.heap.size = W5.heap.size + 1 + 1 + 1 + 1 := by rw [hW, World.size_alloc, z3]
  have b4 : Below (((W5.alloc (.cells #[.slice s.w.a s.w.n s.w.c, .slice s.p.a s.p.n s.p.c, .slice (s.u 0).a (s.u 0).n (s.u 0).c, .slice (s.u 1).a (s.u 1).n (s.u 1).c, .slice (s.u 2).a (s.u 2).n (s.u 2).c, .slice s.c.a s.c.n s.c.c] y1)).alloc (.cells #[.int .i64 k.ph, .int .i64 k.ep, .bool k.mj, .slice k.wk.a k.wk.n k.wk.c, .bool k.ov, .int .i64 k.pa, .int .i64 k.pf, .int .i64 k.ps, .int .i64 k.pc, .bool k.me] y2)).alloc (.cells #[.slice s.w.a s.w.n s.w.c, .slice s.p.a s.p.n s.p.c, .slice (s.u 0).a (s.u 0).n (s.u 0).c, .slice (s.u 1).a (s.u 1).n (s.u 1).c, .slice (s.u 2).a (s.u 2).n (s.u 2).c, .slice s.c.a s.c.n s.c.c] y3)).heap.size (((W5.alloc (.cells #[.slice s.w.a s.w.n s.w.c, .slice s.p.a s.p.n s.p.c, .slice (s.u 0).a (s.u 0).n (s.u 0).c, .slice (s.u 1).a (s.u 1).n (s.u 1).c, .slice (s.u 2).a (s.u 2).n (s.u 2).c, .slice s.c.a s.c.n s.c.c] y1)).alloc (.cells #[.int .i64 k.ph, .int .i64 k.ep, .bool k.mj, .slice k.wk.a k.wk.n k.wk.c, .bool k.ov, .int .i64 k.pa, .int .i64 k.pf, .int .i64 k.ps, .int .i64 k.pc, .bool k.me] y2)).alloc (.cells #[.slice s.w.a s.w.n s.w.c, .slice s.p.a s.p.n s.p.c, .slice (s.u 0).a (s.u 0).n (s.u 0).c, .slice (s.u 1).a (s.u 1).n (s.u 1).c, .slice (s.u 2).a (s.u 2).n (s.u 2).c, .slice s.c.a s.c.n s.c.c] y3)) W := by rw [hW]; exact (Below.refl _ _).alloc (Nat.le_refl _) _
  have b3 : Below ((W5.alloc (.cells #[.slice s.w.a s.w.n s.w.c, .slice s.p.a s.p.n s.p.c, .slice (s.u 0).a (s.u 0).n (s.u 0).c, .slice (s.u 1).a (s.u 1).n (s.u 1).c, .slice (s.u 2).a (s.u 2).n (s.u 2).c, .slice s.c.a s.c.n s.c.c] y1)).alloc (.cells #[.int .i64 k.ph, .int .i64 k.ep, .bool k.mj, .slice k.wk.a k.wk.n k.wk.c, .bool k.ov, .int .i64 k.pa, .int .i64 k.pf, .int .i64 k.ps, .int .i64 k.pc, .bool k.me] y2)).heap.size ((W5.alloc (.cells #[.slice s.w.a s.w.n s.w.c, .slice s.p.a s.p.n s.p.c, .slice (s.u 0).a (s.u 0).n (s.u 0).c, .slice (s.u 1).a (s.u 1).n (s.u 1).c, .slice (s.u 2).a (s.u 2).n (s.u 2).c, .slice s.c.a s.c.n s.c.c] y1)).alloc (.cells #[.int .i64 k.ph, .int .i64 k.ep, .bool k.mj, .slice k.wk.a k.wk.n k.wk.c, .bool k.ov, .int .i64 k.pa, .int .i64 k.pf, .int .i64 k.ps, .int .i64 k.pc, .bool k.me] y2)) W := ((Below.refl _ _).alloc (Nat.le_refl _) _).trans (b4.mono (by omega))
  have b2 : Below (W5.alloc (.cells #[.slice s.w.a s.w.n s.w.c, .slice s.p.a s.p.n s.p.c, .slice (s.u 0).a (s.u 0).n (s.u 0).c, .slice (s.u 1).a (s.u 1).n (s.u 1).c, .slice (s.u 2).a (s.u 2).n (s.u 2).c, .slice s.c.a s.c.n s.c.c] y1)).heap.size (W5.alloc (.cells #[.slice s.w.a s.w.n s.w.c, .slice s.p.a s.p.n s.p.c, .slice (s.u 0).a (s.u 0).n (s.u 0).c, .slice (s.u 1).a (s.u 1).n (s.u 1).c, .slice (s.u 2).a (s.u 2).n (s.u 2).c, .slice s.c.a s.c.n s.c.c] y1)) W := ((Below.refl _ _).alloc (Nat.le_refl _) _).trans (b3.mono (by omega))
  have b1 : Below W5.heap.size W5 W := ((Below.refl _ _).alloc (Nat.le_refl _) _).trans (b2.mono (by omega))
  have x1 := (box6_new W5 s y1).next b2
  have x2 := (CBox.new (W5.alloc (.cells #[.slice s.w.a s.w.n s.w.c, .slice s.p.a s.p.n s.p.c, .slice (s.u 0).a (s.u 0).n (s.u 0).c, .slice (s.u 1).a (s.u 1).n (s.u 1).c, .slice (s.u 2).a (s.u 2).n (s.u 2).c, .slice s.c.a s.c.n s.c.c] y1)) k y2).next b3
  have x2' := (T10.new (W5.alloc (.cells #[.slice s.w.a s.w.n s.w.c, .slice s.p.a s.p.n s.p.c, .slice (s.u 0).a (s.u 0).n (s.u 0).c, .slice (s.u 1).a (s.u 1).n (s.u 1).c, .slice (s.u 2).a (s.u 2).n (s.u 2).c, .slice s.c.a s.c.n s.c.c] y1)) k y2).next b3
  have x3 := (box6_new ((W5.alloc (.cells #[.slice s.w.a s.w.n s.w.c, .slice s.p.a s.p.n s.p.c, .slice (s.u 0).a (s.u 0).n (s.u 0).c, .slice (s.u 1).a (s.u 1).n (s.u 1).c, .slice (s.u 2).a (s.u 2).n (s.u 2).c, .slice s.c.a s.c.n s.c.c] y1)).alloc (.cells #[.int .i64 k.ph, .int .i64 k.ep, .bool k.mj, .slice k.wk.a k.wk.n k.wk.c, .bool k.ov, .int .i64 k.pa, .int .i64 k.pf, .int .i64 k.ps, .int .i64 k.pc, .bool k.me] y2)) s y3).next b4
  have x4 := CBox.new (((W5.alloc (.cells #[.slice s.w.a s.w.n s.w.c, .slice s.p.a s.p.n s.p.c, .slice (s.u 0).a (s.u 0).n (s.u 0).c, .slice (s.u 1).a (s.u 1).n (s.u 1).c, .slice (s.u 2).a (s.u 2).n (s.u 2).c, .slice s.c.a s.c.n s.c.c] y1)).alloc (.cells #[.int .i64 k.ph, .int .i64 k.ep, .bool k.mj, .slice k.wk.a k.wk.n k.wk.c, .bool k.ov, .int .i64 k.pa, .int .i64 k.pf, .int .i64 k.ps, .int .i64 k.pc, .bool k.me] y2)).alloc (.cells #[.slice s.w.a s.w.n s.w.c, .slice s.p.a s.p.n s.p.c, .slice (s.u 0).a (s.u 0).n (s.u 0).c, .slice (s.u 1).a (s.u 1).n (s.u 1).c, .slice (s.u 2).a (s.u 2).n (s.u 2).c, .slice s.c.a s.c.n s.c.c] y3)) k y4
  have x4' := T10.new (((W5.alloc (.cells #[.slice s.w.a s.w.n s.w.c, .slice s.p.a s.p.n s.p.c, .slice (s.u 0).a (s.u 0).n (s.u 0).c, .slice (s.u 1).a (s.u 1).n (s.u 1).c, .slice (s.u 2).a (s.u 2).n (s.u 2).c, .slice s.c.a s.c.n s.c.c] y1)).alloc (.cells #[.int .i64 k.ph, .int .i64 k.ep, .bool k.mj, .slice k.wk.a k.wk.n k.wk.c, .bool k.ov, .int .i64 k.pa, .int .i64 k.pf, .int .i64 k.ps, .int .i64 k.pc, .bool k.me] y2)).alloc (.cells #[.slice s.w.a s.w.n s.w.c, .slice s.p.a s.p.n s.p.c, .slice (s.u 0).a (s.u 0).n (s.u 0).c, .slice (s.u 1).a (s.u 1).n (s.u 1).c, .slice (s.u 2).a (s.u 2).n (s.u 2).c, .slice s.c.a s.c.n s.c.c] y3)) k y4
  rw [z1] at x2 x2'
  rw [z2] at x3
  rw [z3, ← hW] at x4 x4'
  have hpW := hp.next b1
  have hkW := hk.next b1
  have cH : ClrH W5.heap.size s := ⟨clr_row hp.words, fun hn x hx => by
    obtain ⟨b, off, e, hlt, _⟩ := hp.pages hn
    rw [hx] at e
    cases e
    exact .inl hlt, fun j hj => clr_row (hp.free j hj).1, fun hn x hx => by
    obtain ⟨b, off, e, hlt, _⟩ := hp.cards hn
    rw [hx] at e
    cases e
    exact .inl hlt⟩
  exact ⟨b1, by omega, ⟨x1.box, t6_of x1, x2, x2', hpW, hkW, cH, clr_row hk⟩, ⟨x3.box, t6_of x3, x4, x4', hpW, hkW, cH, clr_row hk⟩⟩
theorem sa_keep {n b6 bb oy : Nat} {s : Hs} {y : Int} {w0 : World} (F : (n < w0.heap.size ∧ w0.cell? ⟨n, 0, none⟩ = some (.slice s.w.a s.w.n s.w.c) ∧ w0.cell? ⟨n, 1, none⟩ = some (.slice s.p.a s.p.n s.p.c) ∧ w0.cell? ⟨n, 2, none⟩ = some (.slice (s.u 0).a (s.u 0).n (s.u 0).c) ∧ w0.cell? ⟨n, 3, none⟩ = some (.slice (s.u 1).a (s.u 1).n (s.u 1).c) ∧ w0.cell? ⟨n, 4, none⟩ = some (.slice (s.u 2).a (s.u 2).n (s.u 2).c) ∧ w0.cell? ⟨n, 5, none⟩ = some (.slice s.c.a s.c.n s.c.c)) ∧ (b6 < w0.heap.size ∧ w0.cell? ⟨b6, 0, none⟩ = some (.int .i64 k.ph) ∧ w0.cell? ⟨b6, 1, none⟩ = some (.int .i64 k.ep) ∧ w0.cell? ⟨b6, 2, none⟩ = some (.bool k.mj) ∧ w0.cell? ⟨b6, 3, none⟩ = some (.slice k.wk.a k.wk.n k.wk.c) ∧ w0.cell? ⟨b6, 4, none⟩ = some (.bool k.ov) ∧ w0.cell? ⟨b6, 5, none⟩ = some (.int .i64 k.pa) ∧ w0.cell? ⟨b6, 6, none⟩ = some (.int .i64 k.pf) ∧ w0.cell? ⟨b6, 7, none⟩ = some (.int .i64 k.ps) ∧ w0.cell? ⟨b6, 8, none⟩ = some (.int .i64 k.pc) ∧ w0.cell? ⟨b6, 9, none⟩ = some (.bool k.me)) ∧ (bb < w0.heap.size ∧ w0.cell? ⟨bb, oy, none⟩ = some (.int .i64 y))) (h : Below w0.heap.size w0 W ∧ True) (hb : Below W.heap.size W W') :
    (Below w0.heap.size w0 W' ∧ True) ∧ (n < W'.heap.size ∧ W'.cell? ⟨n, 0, none⟩ = some (.slice s.w.a s.w.n s.w.c) ∧ W'.cell? ⟨n, 1, none⟩ = some (.slice s.p.a s.p.n s.p.c) ∧ W'.cell? ⟨n, 2, none⟩ = some (.slice (s.u 0).a (s.u 0).n (s.u 0).c) ∧ W'.cell? ⟨n, 3, none⟩ = some (.slice (s.u 1).a (s.u 1).n (s.u 1).c) ∧ W'.cell? ⟨n, 4, none⟩ = some (.slice (s.u 2).a (s.u 2).n (s.u 2).c) ∧ W'.cell? ⟨n, 5, none⟩ = some (.slice s.c.a s.c.n s.c.c)) ∧ (b6 < W'.heap.size ∧ W'.cell? ⟨b6, 0, none⟩ = some (.int .i64 k.ph) ∧ W'.cell? ⟨b6, 1, none⟩ = some (.int .i64 k.ep) ∧ W'.cell? ⟨b6, 2, none⟩ = some (.bool k.mj) ∧ W'.cell? ⟨b6, 3, none⟩ = some (.slice k.wk.a k.wk.n k.wk.c) ∧ W'.cell? ⟨b6, 4, none⟩ = some (.bool k.ov) ∧ W'.cell? ⟨b6, 5, none⟩ = some (.int .i64 k.pa) ∧ W'.cell? ⟨b6, 6, none⟩ = some (.int .i64 k.pf) ∧ W'.cell? ⟨b6, 7, none⟩ = some (.int .i64 k.ps) ∧ W'.cell? ⟨b6, 8, none⟩ = some (.int .i64 k.pc) ∧ W'.cell? ⟨b6, 9, none⟩ = some (.bool k.me)) ∧ (bb < W'.heap.size ∧ W'.cell? ⟨bb, oy, none⟩ = some (.int .i64 y)) := by
  have g := h.1.trans (hb.mono h.1.size)
  obtain ⟨⟨f1, f2, f3, f4, f5, f6, f7⟩, ⟨g1, g2, g3, g4, g5, g6, g7, g8, g9, g10, g11⟩, a5, a6⟩ := F
  have hz := g.size
  have C := fun (b j : Nat) (hb : b < w0.heap.size) => g.cell (p := ⟨b, j, none⟩) hb
  exact ⟨⟨g, trivial⟩, ⟨by omega, (C _ _ f1).trans f2, (C _ _ f1).trans f3, (C _ _ f1).trans f4, (C _ _ f1).trans f5, (C _ _ f1).trans f6, (C _ _ f1).trans f7⟩, ⟨by omega, (C _ _ g1).trans g2, (C _ _ g1).trans g3, (C _ _ g1).trans g4, (C _ _ g1).trans g5, (C _ _ g1).trans g6, (C _ _ g1).trans g7, (C _ _ g1).trans g8, (C _ _ g1).trans g9, (C _ _ g1).trans g10, (C _ _ g1).trans g11⟩, by omega, (C _ _ a5).trans a6⟩
end
end
def KGInv (wr : World) (b : Nat) (s t0 : Hs) (k0 k : Ks) (D2 : Hd_) (o : Bool) (x2 : List Int) (HV CV z2 z3 z4 z5 : Value) (a0 : Act) (l : Nat → Bool) (a : Act) (wc : World) : Prop :=
  Rg a0 a 64 74 ∧ ((l 0 = true → a.tmps[65]? = some HV) ∧ (l 1 = true → a.tmps[66]? = some CV) ∧ (l 2 = true → a.tmps[67]? = some z2) ∧ (l 3 = true → a.tmps[68]? = some z3) ∧ (l 4 = true → a.tmps[69]? = some z4) ∧ (l 5 = true → a.tmps[70]? = some z5)) ∧ (l 6 = true → l 0 = true ∧ l 1 = true ∧ l 5 = true) ∧ ∃ (x6 x7 x8 x9 : Value) (t : Hs) (v : Ls.Sl) (w9 : World), ((l 6 = true → a.tmps[71]? = some x6) ∧ (l 7 = true → a.tmps[64]? = some x7) ∧ (l 8 = true → a.tmps[72]? = some x8) ∧ (l 9 = true → a.tmps[73]? = some x9)) ∧ RK wr wc b (l 6) (l 7) (l 8) (l 9) (l 10) (l 11) x6 x7 x8 x9 s t0 k0 k D2 o x2 t v w9
def KGBack (a0 : Act) (z64 z65 z66 z67 z68 z69 z70 z71 z72 z73 : Value) : Act := ((((((((((a0.put (some 64) z64).put (some 65) z65).put (some 66) z66).put (some 67) z67).put (some 68) z68).put (some 69) z69).put (some 70) z70).put (some 71) z71).put (some 72) z72).put (some 73) z73)
theorem KG_back {a0 a : Act} (h : Rg a0 a 64 74) (hs : 74 ≤ a0.tmps.size) {z64 z65 z66 z67 z68 z69 z70 z71 z72 z73 : Value} (e64 : a.tmps[64]? = some z64) (e65 : a.tmps[65]? = some z65) (e66 : a.tmps[66]? = some z66) (e67 : a.tmps[67]? = some z67) (e68 : a.tmps[68]? = some z68) (e69 : a.tmps[69]? = some z69) (e70 : a.tmps[70]? = some z70) (e71 : a.tmps[71]? = some z71) (e72 : a.tmps[72]? = some z72) (e73 : a.tmps[73]? = some z73) : a = KGBack a0 z64 z65 z66 z67 z68 z69 z70 z71 z72 z73 := by
  refine act_ext (by simp [KGBack, Act.put, h.df]) fun j => ?_
  by_cases hj : j < 64 ∨ 74 ≤ j
  · rw [h.out j hj]
    unfold KGBack
    rw [put_ne (show ¬ 73 = j by omega), put_ne (show ¬ 72 = j by omega), put_ne (show ¬ 71 = j by omega), put_ne (show ¬ 70 = j by omega), put_ne (show ¬ 69 = j by omega), put_ne (show ¬ 68 = j by omega), put_ne (show ¬ 67 = j by omega), put_ne (show ¬ 66 = j by omega), put_ne (show ¬ 65 = j by omega), put_ne (show ¬ 64 = j by omega)]
  · rcases (show j = 64 ∨ j = 65 ∨ j = 66 ∨ j = 67 ∨ j = 68 ∨ j = 69 ∨ j = 70 ∨ j = 71 ∨ j = 72 ∨ j = 73 by omega) with rfl | rfl | rfl | rfl | rfl | rfl | rfl | rfl | rfl | rfl
    · rw [e64]
      unfold KGBack
      rw [put_ne (show ¬ 73 = 64 by omega), put_ne (show ¬ 72 = 64 by omega), put_ne (show ¬ 71 = 64 by omega), put_ne (show ¬ 70 = 64 by omega), put_ne (show ¬ 69 = 64 by omega), put_ne (show ¬ 68 = 64 by omega), put_ne (show ¬ 67 = 64 by omega), put_ne (show ¬ 66 = 64 by omega), put_ne (show ¬ 65 = 64 by omega), put_at (by first | omega | (simp [Act.put]; omega))]
    · rw [e65]
      unfold KGBack
      rw [put_ne (show ¬ 73 = 65 by omega), put_ne (show ¬ 72 = 65 by omega), put_ne (show ¬ 71 = 65 by omega), put_ne (show ¬ 70 = 65 by omega), put_ne (show ¬ 69 = 65 by omega), put_ne (show ¬ 68 = 65 by omega), put_ne (show ¬ 67 = 65 by omega), put_ne (show ¬ 66 = 65 by omega), put_at (by first | omega | (simp [Act.put]; omega))]
    · rw [e66]
      unfold KGBack
      rw [put_ne (show ¬ 73 = 66 by omega), put_ne (show ¬ 72 = 66 by omega), put_ne (show ¬ 71 = 66 by omega), put_ne (show ¬ 70 = 66 by omega), put_ne (show ¬ 69 = 66 by omega), put_ne (show ¬ 68 = 66 by omega), put_ne (show ¬ 67 = 66 by omega), put_at (by first | omega | (simp [Act.put]; omega))]
    · rw [e67]
      unfold KGBack
      rw [put_ne (show ¬ 73 = 67 by omega), put_ne (show ¬ 72 = 67 by omega), put_ne (show ¬ 71 = 67 by omega), put_ne (show ¬ 70 = 67 by omega), put_ne (show ¬ 69 = 67 by omega), put_ne (show ¬ 68 = 67 by omega), put_at (by first | omega | (simp [Act.put]; omega))]
    · rw [e68]
      unfold KGBack
      rw [put_ne (show ¬ 73 = 68 by omega), put_ne (show ¬ 72 = 68 by omega), put_ne (show ¬ 71 = 68 by omega), put_ne (show ¬ 70 = 68 by omega), put_ne (show ¬ 69 = 68 by omega), put_at (by first | omega | (simp [Act.put]; omega))]
    · rw [e69]
      unfold KGBack
      rw [put_ne (show ¬ 73 = 69 by omega), put_ne (show ¬ 72 = 69 by omega), put_ne (show ¬ 71 = 69 by omega), put_ne (show ¬ 70 = 69 by omega), put_at (by first | omega | (simp [Act.put]; omega))]
    · rw [e70]
      unfold KGBack
      rw [put_ne (show ¬ 73 = 70 by omega), put_ne (show ¬ 72 = 70 by omega), put_ne (show ¬ 71 = 70 by omega), put_at (by first | omega | (simp [Act.put]; omega))]
    · rw [e71]
      unfold KGBack
      rw [put_ne (show ¬ 73 = 71 by omega), put_ne (show ¬ 72 = 71 by omega), put_at (by first | omega | (simp [Act.put]; omega))]
    · rw [e72]
      unfold KGBack
      rw [put_ne (show ¬ 73 = 72 by omega), put_at (by first | omega | (simp [Act.put]; omega))]
    · rw [e73]
      unfold KGBack
      rw [put_at (by first | omega | (simp [Act.put]; omega))]
def KMInv (wr : World) (b : Nat) (s t0 : Hs) (k0 k : Ks) (D2 : Hd_) (o : Bool) (x2 : List Int) (HV CV z2 z3 z4 z5 z6 z7 z8 z9 : Value) (a0 : Act) (l : Nat → Bool) (a : Act) (wc : World) : Prop :=
  Rg a0 a 74 88 ∧ ((l 0 = true → a.tmps[75]? = some HV) ∧ (l 1 = true → a.tmps[76]? = some CV) ∧ (l 2 = true → a.tmps[77]? = some z2) ∧ (l 3 = true → a.tmps[78]? = some z3) ∧ (l 4 = true → a.tmps[79]? = some z4) ∧ (l 5 = true → a.tmps[80]? = some z5) ∧ (l 6 = true → a.tmps[81]? = some z6) ∧ (l 7 = true → a.tmps[82]? = some z7) ∧ (l 8 = true → a.tmps[83]? = some z8) ∧ (l 9 = true → a.tmps[84]? = some z9)) ∧ (l 10 = true → l 0 = true ∧ l 1 = true ∧ l 9 = true) ∧ ∃ (x6 x7 x8 x9 : Value) (t : Hs) (v : Ls.Sl) (w9 : World), ((l 10 = true → a.tmps[85]? = some x6) ∧ (l 11 = true → a.tmps[74]? = some x7) ∧ (l 12 = true → a.tmps[86]? = some x8) ∧ (l 13 = true → a.tmps[87]? = some x9)) ∧ RK wr wc b (l 10) (l 11) (l 12) (l 13) (l 14) (l 15) x6 x7 x8 x9 s t0 k0 k D2 o x2 t v w9
def KMBack (a0 : Act) (z74 z75 z76 z77 z78 z79 z80 z81 z82 z83 z84 z85 z86 z87 : Value) : Act := ((((((((((((((a0.put (some 74) z74).put (some 75) z75).put (some 76) z76).put (some 77) z77).put (some 78) z78).put (some 79) z79).put (some 80) z80).put (some 81) z81).put (some 82) z82).put (some 83) z83).put (some 84) z84).put (some 85) z85).put (some 86) z86).put (some 87) z87)
theorem KM_back {a0 a : Act} (h : Rg a0 a 74 88) (hs : 88 ≤ a0.tmps.size) {z74 z75 z76 z77 z78 z79 z80 z81 z82 z83 z84 z85 z86 z87 : Value} (e74 : a.tmps[74]? = some z74) (e75 : a.tmps[75]? = some z75) (e76 : a.tmps[76]? = some z76) (e77 : a.tmps[77]? = some z77) (e78 : a.tmps[78]? = some z78) (e79 : a.tmps[79]? = some z79) (e80 : a.tmps[80]? = some z80) (e81 : a.tmps[81]? = some z81) (e82 : a.tmps[82]? = some z82) (e83 : a.tmps[83]? = some z83) (e84 : a.tmps[84]? = some z84) (e85 : a.tmps[85]? = some z85) (e86 : a.tmps[86]? = some z86) (e87 : a.tmps[87]? = some z87) : a = KMBack a0 z74 z75 z76 z77 z78 z79 z80 z81 z82 z83 z84 z85 z86 z87 := by
  refine act_ext (by simp [KMBack, Act.put, h.df]) fun j => ?_
  by_cases hj : j < 74 ∨ 88 ≤ j
  · rw [h.out j hj]
    unfold KMBack
    rw [put_ne (show ¬ 87 = j by omega), put_ne (show ¬ 86 = j by omega), put_ne (show ¬ 85 = j by omega), put_ne (show ¬ 84 = j by omega), put_ne (show ¬ 83 = j by omega), put_ne (show ¬ 82 = j by omega), put_ne (show ¬ 81 = j by omega), put_ne (show ¬ 80 = j by omega), put_ne (show ¬ 79 = j by omega), put_ne (show ¬ 78 = j by omega), put_ne (show ¬ 77 = j by omega), put_ne (show ¬ 76 = j by omega), put_ne (show ¬ 75 = j by omega), put_ne (show ¬ 74 = j by omega)]
  · rcases (show j = 74 ∨ j = 75 ∨ j = 76 ∨ j = 77 ∨ j = 78 ∨ j = 79 ∨ j = 80 ∨ j = 81 ∨ j = 82 ∨ j = 83 ∨ j = 84 ∨ j = 85 ∨ j = 86 ∨ j = 87 by omega) with rfl | rfl | rfl | rfl | rfl | rfl | rfl | rfl | rfl | rfl | rfl | rfl | rfl | rfl
    · rw [e74]
      unfold KMBack
      rw [put_ne (show ¬ 87 = 74 by omega), put_ne (show ¬ 86 = 74 by omega), put_ne (show ¬ 85 = 74 by omega), put_ne (show ¬ 84 = 74 by omega), put_ne (show ¬ 83 = 74 by omega), put_ne (show ¬ 82 = 74 by omega), put_ne (show ¬ 81 = 74 by omega), put_ne (show ¬ 80 = 74 by omega), put_ne (show ¬ 79 = 74 by omega), put_ne (show ¬ 78 = 74 by omega), put_ne (show ¬ 77 = 74 by omega), put_ne (show ¬ 76 = 74 by omega), put_ne (show ¬ 75 = 74 by omega), put_at (by first | omega | (simp [Act.put]; omega))]
    · rw [e75]
      unfold KMBack
      rw [put_ne (show ¬ 87 = 75 by omega), put_ne (show ¬ 86 = 75 by omega), put_ne (show ¬ 85 = 75 by omega), put_ne (show ¬ 84 = 75 by omega), put_ne (show ¬ 83 = 75 by omega), put_ne (show ¬ 82 = 75 by omega), put_ne (show ¬ 81 = 75 by omega), put_ne (show ¬ 80 = 75 by omega), put_ne (show ¬ 79 = 75 by omega), put_ne (show ¬ 78 = 75 by omega), put_ne (show ¬ 77 = 75 by omega), put_ne (show ¬ 76 = 75 by omega), put_at (by first | omega | (simp [Act.put]; omega))]
    · rw [e76]
      unfold KMBack
      rw [put_ne (show ¬ 87 = 76 by omega), put_ne (show ¬ 86 = 76 by omega), put_ne (show ¬ 85 = 76 by omega), put_ne (show ¬ 84 = 76 by omega), put_ne (show ¬ 83 = 76 by omega), put_ne (show ¬ 82 = 76 by omega), put_ne (show ¬ 81 = 76 by omega), put_ne (show ¬ 80 = 76 by omega), put_ne (show ¬ 79 = 76 by omega), put_ne (show ¬ 78 = 76 by omega), put_ne (show ¬ 77 = 76 by omega), put_at (by first | omega | (simp [Act.put]; omega))]
    · rw [e77]
      unfold KMBack
      rw [put_ne (show ¬ 87 = 77 by omega), put_ne (show ¬ 86 = 77 by omega), put_ne (show ¬ 85 = 77 by omega), put_ne (show ¬ 84 = 77 by omega), put_ne (show ¬ 83 = 77 by omega), put_ne (show ¬ 82 = 77 by omega), put_ne (show ¬ 81 = 77 by omega), put_ne (show ¬ 80 = 77 by omega), put_ne (show ¬ 79 = 77 by omega), put_ne (show ¬ 78 = 77 by omega), put_at (by first | omega | (simp [Act.put]; omega))]
    · rw [e78]
      unfold KMBack
      rw [put_ne (show ¬ 87 = 78 by omega), put_ne (show ¬ 86 = 78 by omega), put_ne (show ¬ 85 = 78 by omega), put_ne (show ¬ 84 = 78 by omega), put_ne (show ¬ 83 = 78 by omega), put_ne (show ¬ 82 = 78 by omega), put_ne (show ¬ 81 = 78 by omega), put_ne (show ¬ 80 = 78 by omega), put_ne (show ¬ 79 = 78 by omega), put_at (by first | omega | (simp [Act.put]; omega))]
    · rw [e79]
      unfold KMBack
      rw [put_ne (show ¬ 87 = 79 by omega), put_ne (show ¬ 86 = 79 by omega), put_ne (show ¬ 85 = 79 by omega), put_ne (show ¬ 84 = 79 by omega), put_ne (show ¬ 83 = 79 by omega), put_ne (show ¬ 82 = 79 by omega), put_ne (show ¬ 81 = 79 by omega), put_ne (show ¬ 80 = 79 by omega), put_at (by first | omega | (simp [Act.put]; omega))]
    · rw [e80]
      unfold KMBack
      rw [put_ne (show ¬ 87 = 80 by omega), put_ne (show ¬ 86 = 80 by omega), put_ne (show ¬ 85 = 80 by omega), put_ne (show ¬ 84 = 80 by omega), put_ne (show ¬ 83 = 80 by omega), put_ne (show ¬ 82 = 80 by omega), put_ne (show ¬ 81 = 80 by omega), put_at (by first | omega | (simp [Act.put]; omega))]
    · rw [e81]
      unfold KMBack
      rw [put_ne (show ¬ 87 = 81 by omega), put_ne (show ¬ 86 = 81 by omega), put_ne (show ¬ 85 = 81 by omega), put_ne (show ¬ 84 = 81 by omega), put_ne (show ¬ 83 = 81 by omega), put_ne (show ¬ 82 = 81 by omega), put_at (by first | omega | (simp [Act.put]; omega))]
    · rw [e82]
      unfold KMBack
      rw [put_ne (show ¬ 87 = 82 by omega), put_ne (show ¬ 86 = 82 by omega), put_ne (show ¬ 85 = 82 by omega), put_ne (show ¬ 84 = 82 by omega), put_ne (show ¬ 83 = 82 by omega), put_at (by first | omega | (simp [Act.put]; omega))]
    · rw [e83]
      unfold KMBack
      rw [put_ne (show ¬ 87 = 83 by omega), put_ne (show ¬ 86 = 83 by omega), put_ne (show ¬ 85 = 83 by omega), put_ne (show ¬ 84 = 83 by omega), put_at (by first | omega | (simp [Act.put]; omega))]
    · rw [e84]
      unfold KMBack
      rw [put_ne (show ¬ 87 = 84 by omega), put_ne (show ¬ 86 = 84 by omega), put_ne (show ¬ 85 = 84 by omega), put_at (by first | omega | (simp [Act.put]; omega))]
    · rw [e85]
      unfold KMBack
      rw [put_ne (show ¬ 87 = 85 by omega), put_ne (show ¬ 86 = 85 by omega), put_at (by first | omega | (simp [Act.put]; omega))]
    · rw [e86]
      unfold KMBack
      rw [put_ne (show ¬ 87 = 86 by omega), put_at (by first | omega | (simp [Act.put]; omega))]
    · rw [e87]
      unfold KMBack
      rw [put_at (by first | omega | (simp [Act.put]; omega))]
end Go.Proofs.YtdmclfolooiccaaDoor.Sh
