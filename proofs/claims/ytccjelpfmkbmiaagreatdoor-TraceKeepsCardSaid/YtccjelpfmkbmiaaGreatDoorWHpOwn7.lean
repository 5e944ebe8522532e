/-
  The reference's Own of a heap: the same, in memory of its own.
-/
import Derived.Test.YtccjelpfmkbmiaaGreatDoorHpWM
namespace Go.Proofs.YtccjelpfmkbmiaaGreatDoor
open Go.RowKit
set_option maxRecDepth 100000

/-- What Own leaves. -/
def OwnOut (w : World) (s : Hs) (d : Hd_) (e : Ending) (w' : World) : Prop :=
  ∃ t : Hs, e = .returned (.agg #[.slice t.w.a t.w.n t.w.c, .slice t.p.a t.p.n t.p.c, .slice (t.u 0).a (t.u 0).n (t.u 0).c, .slice (t.u 1).a (t.u 1).n (t.u 1).c, .slice (t.u 2).a (t.u 2).n (t.u 2).c, .slice t.c.a t.c.n t.c.c]) ∧ w'.ownsRow w.heap.size 3 1 (.slice t.w.a t.w.n t.w.c) t.w.n (d.ws.map (Value.int .i64)) ∧ Hp w' w'.heap.size t d ∧ Lens s t ∧ News w.heap.size t ∧
    (∀ x, t.w.a = some x → (0 < t.p.n → ∀ z, t.p.a = some z → ¬ z.block = x.block) ∧ (∀ j, j < 3 → 0 < (t.u j).n → ∀ z, (t.u j).a = some z → ¬ z.block = x.block) ∧ (0 < t.c.n → ∀ z, t.c.a = some z → ¬ z.block = x.block)) ∧ Below w.heap.size w w'
/-- The cards are in a block of their own. -/
def OwnC (w w' : World) (t : Hs) : Prop :=
  0 < t.c.n → ∃ g, t.c.a = some ⟨g, 0, none⟩ ∧ (∀ i, w'.frozen? ⟨g, i, none⟩ = false) ∧ w.heap.size + 2 ≤ g ∧ g < w'.heap.size ∧ (∀ z, t.w.a = some z → ¬ z.block = g) ∧ (∀ z, t.p.a = some z → ¬ z.block = g) ∧ ∀ j, j < 3 → ∀ z, (t.u j).a = some z → ¬ z.block = g
/-- .. with all that is known of it. -/
def OwnFull (w : World) (s : Hs) (d : Hd_) (e : Ending) (w' : World) : Prop :=
  ∃ t : Hs, e = .returned (.agg #[.slice t.w.a t.w.n t.w.c, .slice t.p.a t.p.n t.p.c, .slice (t.u 0).a (t.u 0).n (t.u 0).c, .slice (t.u 1).a (t.u 1).n (t.u 1).c, .slice (t.u 2).a (t.u 2).n (t.u 2).c, .slice t.c.a t.c.n t.c.c]) ∧ (w'.ownsRow w.heap.size 3 1 (.slice t.w.a t.w.n t.w.c) t.w.n (d.ws.map (Value.int .i64)) ∧ Hp w' w'.heap.size t d ∧ Lens s t ∧ News w.heap.size t ∧
    (∀ x, t.w.a = some x → (0 < t.p.n → ∀ z, t.p.a = some z → ¬ z.block = x.block) ∧ (∀ j, j < 3 → 0 < (t.u j).n → ∀ z, (t.u j).a = some z → ¬ z.block = x.block) ∧ (0 < t.c.n → ∀ z, t.c.a = some z → ¬ z.block = x.block)) ∧ Below w.heap.size w w') ∧ OwnC w w' t
theorem own7_end {w W0 w1 w3 w4 w5 w6 w7 w9 : World} {s : Hs} {d : Hd_} {v : Nat → Ls.Sl} {p3 p5 p7 : Option Addr} {c3 c5 c7 : Nat} (hl0 : w.heap.size + 1 < W0.heap.size) (hb1 : Below W0.heap.size W0 w1) (ho1 : Ls.Own3 w1 W0.heap.size v d.F)
    (h3 : w3.ownsRow (w1.heap.size + 1) 3 1 (.slice p3 s.w.n c3) s.w.n (d.ws.map (Value.int .i64))) (hs3 : w1.heap.size + 1 ≤ w3.heap.size) (e4 : w4.heap.size = w3.heap.size) (h5 : PNew w4 s.p.n d.f p5 w5) (e6 : w6.heap.size = w5.heap.size) (h7 : BNew w6 s.c.n d.cs p7 w7)
    (t1 : Stp w1.heap.size (w.heap.size + 1) w1 w9) (t3 : Stp w1.heap.size (w.heap.size + 1) w3 w9) (t5 : Stp w1.heap.size (w.heap.size + 1) w5 w9) (t7 : Stp w1.heap.size (w.heap.size + 1) w7 w9) (hbel : Below w.heap.size w w9) (hun : ∀ j, j < 3 → (v j).n = (s.u j).n) :
    OwnFull w s d (.returned (.agg #[.slice (⟨⟨p3, s.w.n, c3⟩, ⟨p5, s.p.n, c5⟩, v, ⟨p7, s.c.n, c7⟩⟩ : Hs).w.a (⟨⟨p3, s.w.n, c3⟩, ⟨p5, s.p.n, c5⟩, v, ⟨p7, s.c.n, c7⟩⟩ : Hs).w.n (⟨⟨p3, s.w.n, c3⟩, ⟨p5, s.p.n, c5⟩, v, ⟨p7, s.c.n, c7⟩⟩ : Hs).w.c, .slice (⟨⟨p3, s.w.n, c3⟩, ⟨p5, s.p.n, c5⟩, v, ⟨p7, s.c.n, c7⟩⟩ : Hs).p.a (⟨⟨p3, s.w.n, c3⟩, ⟨p5, s.p.n, c5⟩, v, ⟨p7, s.c.n, c7⟩⟩ : Hs).p.n (⟨⟨p3, s.w.n, c3⟩, ⟨p5, s.p.n, c5⟩, v, ⟨p7, s.c.n, c7⟩⟩ : Hs).p.c, .slice ((⟨⟨p3, s.w.n, c3⟩, ⟨p5, s.p.n, c5⟩, v, ⟨p7, s.c.n, c7⟩⟩ : Hs).u 0).a ((⟨⟨p3, s.w.n, c3⟩, ⟨p5, s.p.n, c5⟩, v, ⟨p7, s.c.n, c7⟩⟩ : Hs).u 0).n ((⟨⟨p3, s.w.n, c3⟩, ⟨p5, s.p.n, c5⟩, v, ⟨p7, s.c.n, c7⟩⟩ : Hs).u 0).c, .slice ((⟨⟨p3, s.w.n, c3⟩, ⟨p5, s.p.n, c5⟩, v, ⟨p7, s.c.n, c7⟩⟩ : Hs).u 1).a ((⟨⟨p3, s.w.n, c3⟩, ⟨p5, s.p.n, c5⟩, v, ⟨p7, s.c.n, c7⟩⟩ : Hs).u 1).n ((⟨⟨p3, s.w.n, c3⟩, ⟨p5, s.p.n, c5⟩, v, ⟨p7, s.c.n, c7⟩⟩ : Hs).u 1).c, .slice ((⟨⟨p3, s.w.n, c3⟩, ⟨p5, s.p.n, c5⟩, v, ⟨p7, s.c.n, c7⟩⟩ : Hs).u 2).a ((⟨⟨p3, s.w.n, c3⟩, ⟨p5, s.p.n, c5⟩, v, ⟨p7, s.c.n, c7⟩⟩ : Hs).u 2).n ((⟨⟨p3, s.w.n, c3⟩, ⟨p5, s.p.n, c5⟩, v, ⟨p7, s.c.n, c7⟩⟩ : Hs).u 2).c, .slice (⟨⟨p3, s.w.n, c3⟩, ⟨p5, s.p.n, c5⟩, v, ⟨p7, s.c.n, c7⟩⟩ : Hs).c.a (⟨⟨p3, s.w.n, c3⟩, ⟨p5, s.p.n, c5⟩, v, ⟨p7, s.c.n, c7⟩⟩ : Hs).c.n (⟨⟨p3, s.w.n, c3⟩, ⟨p5, s.p.n, c5⟩, v, ⟨p7, s.c.n, c7⟩⟩ : Hs).c.c])) w9 := by
  have z1 := hb1.size
  have z5 := h5.bel.size
  obtain ⟨a3, k3, e3, hr3, _, _⟩ := Ls.owns_row h3
  simp only [Value.slice.injEq, true_and] at e3
  obtain ⟨rfl, rfl⟩ := e3
  have l3 : ∀ x, p3 = some x → w1.heap.size + 1 ≤ x.block ∧ x.block < w3.heap.size := fun x hx => h3.lt x.block (by rw [Ls.ownBlock_slice, hx]; rfl)
  have lv : ∀ j, j < 3 → ∀ x, (v j).a = some x → W0.heap.size ≤ x.block ∧ x.block < w1.heap.size := fun j hj x hx => ho1.block j hj hx
  have hv := ho1.l3
  refine ⟨⟨⟨p3, s.w.n, c3⟩, ⟨p5, s.p.n, c5⟩, v, ⟨p7, s.c.n, c7⟩⟩, rfl, ⟨?_, ⟨?_, ?_, fun j hj => ⟨?_, (hv j hj).2⟩, ?_⟩, ⟨rfl, rfl, hun, rfl⟩, ⟨fun _ x hx => by have := (l3 x hx).1; omega, fun _ x hx => by have := h5.lies x hx; omega, fun j hj _ x hx => by have := (lv j hj x hx).1; omega, fun _ x hx => by have := h7.lies x hx; omega⟩, fun x hx => ⟨fun _ z hz => ?_, fun j hj _ z hz => ?_, fun _ z hz => ?_⟩, hbel⟩, fun h0 => ?_⟩
  · have h3' : w3.ownsRow w.heap.size 3 1 (.slice p3 s.w.n c3) s.w.n (d.ws.map (Value.int .i64)) := ⟨h3.1, h3.2.imp id fun ⟨g, cap, cur, e, hg, r⟩ => ⟨g, cap, cur, e, by omega, r⟩⟩
    refine Ls.World.ownsRow.same h3' fun g hg hlt => ?_
    rw [Ls.ownBlock_slice] at hg
    cases hp3 : p3 with
    | none => rw [hp3] at hg; cases hg
    | some x =>
      rw [hp3] at hg
      simp at hg
      subst hg
      exact t3.2 _ hlt (by have := (l3 x hp3).1; omega) (by have := (l3 x hp3).1; omega)
  · exact row_stp (v := ⟨p3, s.w.n, c3⟩) hr3 (fun _ z hz => by have := (l3 z hz).1; exact ⟨by omega, by omega⟩) t3
  · exact prow_stp (v := ⟨p5, s.p.n, c5⟩) h5.row (fun _ z hz => by have := h5.lies z hz; exact ⟨by omega, by omega⟩) t5
  · exact row_stp (hv j hj).1 (fun _ z hz => by have := lv j hj z hz; exact ⟨by omega, by omega⟩) t1
  · exact brow_stp (v := ⟨p7, s.c.n, c7⟩) h7.row (fun _ z hz => by have := h7.lies z hz; exact ⟨by omega, by omega⟩) t7
  · have h1 := (l3 x hx).2
    have h2 := h5.lies z hz
    omega
  · have h1 := (l3 x hx).1
    have h2 := (lv j hj z hz).2
    omega
  · have h1 := (l3 x hx).2
    have h2 := h7.lies z hz
    omega
  · obtain ⟨g, off, e, hlt, hc⟩ := h7.row h0
    have h8 := h7.free _ e
    have h9 := h7.lies _ e
    obtain ⟨h81, h82, h83⟩ := h8
    simp only [Addr.mk.injEq, true_and, and_true] at h81
    subst h81
    dsimp only at h82 h83 h9
    have hg : w1.heap.size + 1 ≤ g := by omega
    refine ⟨g, e, fun i => (World.frozen?_of_block (a := ⟨g, i, none⟩) (t7.2 g h83 (by omega) (by omega))).trans (h82 i), by omega, by have := t7.1; omega, fun z hz => ?_, fun z hz => ?_, fun j hj z hz => ?_⟩
    · have := (l3 z hz).2
      omega
    · have h1 := h5.lies z hz
      have h2 := h5.high z hz
      omega
    · have := (lv j hj z hz).2
      omega
/-- What a walk through Own has in memory. -/
structure Ow (w W : World) (bo : Nat) (s t : Hs) : Prop where
  bel : Below w.heap.size w W
  hb : HBox W w.heap.size s
  rb : Box6 W (w.heap.size + 1) noHs
  ob : Box6 W bo t
  lo : w.heap.size + 2 ≤ bo
theorem Ow.next {w W W' : World} {bo : Nat} {s t : Hs} (h : Ow w W bo s t) (hb : Below W.heap.size W W') : Ow w W' bo s t := ⟨h.bel.trans (hb.mono h.bel.size), h.hb.next hb, h.rb.next hb, h.ob.next hb, h.lo⟩
theorem Ow.set {w W : World} {bo : Nat} {s t t' : Hs} (h : Ow w W bo s t) (k : Nat) (x : Value)
    (e0 : Value.slice t'.w.a t'.w.n t'.w.c = if 0 = k then x else .slice t.w.a t.w.n t.w.c) (e1 : Value.slice t'.p.a t'.p.n t'.p.c = if 1 = k then x else .slice t.p.a t.p.n t.p.c)
    (e2 : Value.slice (t'.u 0).a (t'.u 0).n (t'.u 0).c = if 2 = k then x else .slice (t.u 0).a (t.u 0).n (t.u 0).c) (e3 : Value.slice (t'.u 1).a (t'.u 1).n (t'.u 1).c = if 3 = k then x else .slice (t.u 1).a (t.u 1).n (t.u 1).c)
    (e4 : Value.slice (t'.u 2).a (t'.u 2).n (t'.u 2).c = if 4 = k then x else .slice (t.u 2).a (t.u 2).n (t.u 2).c) (e5 : Value.slice t'.c.a t'.c.n t'.c.c = if 5 = k then x else .slice t.c.a t.c.n t.c.c) : Ow w (W.setCell ⟨bo, k, none⟩ x) bo s t' := by
  have hsz : W.heap.size = (W.setCell ⟨bo, k, none⟩ x).heap.size := by simp [World.setCell]
  have hoth : ∀ j, ¬ j = bo → (W.setCell ⟨bo, k, none⟩ x).heap[j]? = W.heap[j]? := fun j hj => Below.heap_setCell _ _ _ _ hj
  have hlo := h.lo
  have hB : Box6 W bo t := h.ob
  exact ⟨h.bel.setCell (p := ⟨bo, k, none⟩) (by show w.heap.size ≤ bo; omega) _, hbox_same h.hb (hoth _ (by omega)) (Nat.le_of_eq hsz), h.rb.same (hoth _ (by omega)) (Nat.le_of_eq hsz),
    ⟨⟨cell_set hB.box.c0 e0, cell_set hB.box.c1 e1, cell_set hB.box.c2 e2, cell_set hB.box.c3 e3, cell_set hB.box.c4 e4, cell_set hB.box.c5 e5, by rw [← hsz]; exact hB.box.lt⟩, frozen_set hB.free⟩, hlo⟩
theorem res_own {W : World} {b : Nat} {tm : Array Value} {v0 v1 v2 v3 v4 v5 : Value} (ht : tm[2]? = some (.pointer (some ⟨b, 0, none⟩))) (k0 : W.cell? ⟨b, 0, none⟩ = some v0) (k1 : W.cell? ⟨b, 1, none⟩ = some v1) (k2 : W.cell? ⟨b, 2, none⟩ = some v2) (k3 : W.cell? ⟨b, 3, none⟩ = some v3) (k4 : W.cell? ⟨b, 4, none⟩ = some v4) (k5 : W.cell? ⟨b, 5, none⟩ = some v5) :
    (results Tryz.f32 tm).run Tryz.prog W = .ok (.agg #[v0, v1, v2, v3, v4, v5]) W := by
  simp [results, Tryz.results32, go_sem, ht, k0, k1, k2, k3, k4, k5]
set_option maxHeartbeats 2000000 in
theorem rown7_full (s : Hs) (d : Hd_) (w : World) (hp : Hp w w.heap.size s d) (hwn : s.w.n ≤ 4000) (hpn : s.p.n ≤ 1000) (hcn : s.c.n ≤ 100000) (hun : ∀ j, j < 3 → (s.u j).n ≤ 2000000) : Calls Tryz.prog 32 #[(.agg #[.slice s.w.a s.w.n s.w.c, .slice s.p.a s.p.n s.p.c, .slice (s.u 0).a (s.u 0).n (s.u 0).c, .slice (s.u 1).a (s.u 1).n (s.u 1).c, .slice (s.u 2).a (s.u 2).n (s.u 2).c, .slice s.c.a s.c.n s.c.c])] w (OwnFull w s d) := by
  have HP := Lib.hid hp
  have HUN := Lib.hid hun
  clear hp hun
  go_enter Tryz.func32, Tryz.ntmps32
  go_wp2_with fail
  obtain ⟨W0, hW0⟩ : ∃ W0, W0 = (w.alloc (.cells #[.slice s.w.a s.w.n s.w.c, .slice s.p.a s.p.n s.p.c, .slice (s.u 0).a (s.u 0).n (s.u 0).c, .slice (s.u 1).a (s.u 1).n (s.u 1).c, .slice (s.u 2).a (s.u 2).n (s.u 2).c, .slice s.c.a s.c.n s.c.c] 28)).alloc (.cells #[.slice none 0 0, .slice none 0 0, .slice none 0 0, .slice none 0 0, .slice none 0 0, .slice none 0 0] 28) := ⟨_, rfl⟩
  have K0 := Lib.hid (cp_start HP.out hW0)
  rw [← hW0]
  clear hW0
  have hl0 : w.heap.size + 1 < W0.heap.size := K0.out.res.box.lt
  refine (Ls.rown_any W0.heap.size s.u d.F W0 K0.out.hp.free (Nat.le_refl _) HUN.out).mono ?_
  rintro e9 w1 ⟨v, rfl, ho1, hb1⟩
  have O1 := Lib.hid (And.intro ho1 hb1)
  have hs1 := hb1.size
  have bOB := HBox.new w1 ⟨⟨none, 0, 0⟩, ⟨none, 0, 0⟩, v, ⟨none, 0, 0⟩⟩ 28
  have fOB : ∀ j, (w1.alloc (.cells #[.slice none 0 0, .slice none 0 0, .slice (v 0).a (v 0).n (v 0).c, .slice (v 1).a (v 1).n (v 1).c, .slice (v 2).a (v 2).n (v 2).c, .slice none 0 0] 28)).frozen? ⟨w1.heap.size, j, none⟩ = false := fun j => by simp [go_sem]
  have b2 := (Below.refl w1.heap.size w1).alloc (Nat.le_refl _) (.cells #[.slice none 0 0, .slice none 0 0, .slice (v 0).a (v 0).n (v 0).c, .slice (v 1).a (v 1).n (v 1).c, .slice (v 2).a (v 2).n (v 2).c, .slice none 0 0] 28)
  have K1 := K0.out.next hb1
  have K2 : Hid (Ow w (w1.alloc (.cells #[.slice none 0 0, .slice none 0 0, .slice (v 0).a (v 0).n (v 0).c, .slice (v 1).a (v 1).n (v 1).c, .slice (v 2).a (v 2).n (v 2).c, .slice none 0 0] 28)) w1.heap.size s ⟨⟨none, 0, 0⟩, ⟨none, 0, 0⟩, v, ⟨none, 0, 0⟩⟩) := Lib.hid ⟨(K1.next b2).bel, (K1.next b2).box.box, (K1.next b2).res, ⟨bOB, fOB⟩, by omega⟩
  clear ho1 hb1 bOB fOB b2 K1 K0
  have q0 := K2.out.hb.c0
  have ql := K2.out.hb.lt
  go_wp2_with (at_builtin; refine Ls.list_cat rfl (.tmp 9) (.tmp 11) rfl rfl rfl (xs := []) (base := w1.heap.size + 1) (World.ownsRow_nil _ _ _ _) (HP.out.words.below K2.out.bel) (by simp) (by omega) ?_)
  intro p3 c3 w3 hcat
  have h3 : w3.ownsRow (w1.heap.size + 1) 3 1 (.slice p3 s.w.n c3) s.w.n (d.ws.map (Value.int .i64)) := by simpa using hcat.own
  have b3 : Below (w1.alloc (.cells #[.slice none 0 0, .slice none 0 0, .slice (v 0).a (v 0).n (v 0).c, .slice (v 1).a (v 1).n (v 1).c, .slice (v 2).a (v 2).n (v 2).c, .slice none 0 0] 28)).heap.size (w1.alloc (.cells #[.slice none 0 0, .slice none 0 0, .slice (v 0).a (v 0).n (v 0).c, .slice (v 1).a (v 1).n (v 1).c, .slice (v 2).a (v 2).n (v 2).c, .slice none 0 0] 28)) w3 := (Below.refl _ _).grown hcat.grown (Nat.le_refl _) (by intro j hj; cases hj)
  have K3 := Lib.hid (K2.out.next b3)
  have K4 := Lib.hid (K3.out.set (t' := ⟨⟨p3, s.w.n, c3⟩, ⟨none, 0, 0⟩, v, ⟨none, 0, 0⟩⟩) 0 (.slice p3 s.w.n c3) rfl rfl rfl rfl rfl rfl)
  have T3 := Lib.hid (And.intro h3 b3)
  clear hcat h3 b3 q0 ql
  have x0 := K3.out.ob.box.c0
  have x1 := K3.out.ob.box.c1
  have xf := K3.out.ob.free 0
  have xl := K3.out.ob.box.lt
  have q1 := K3.out.hb.c1
  have ql := K3.out.hb.lt
  dsimp only at x0 x1
  go_wp2_with (at_builtin; refine list_pnew rfl (.tmp 15) (.tmp 17) rfl rfl rfl (HP.out.pages.below K4.out.bel) hpn ?_)
  intro p5 c5 w5 h5
  have K5 := Lib.hid (K4.out.next h5.bel)
  have K6 := Lib.hid (K5.out.set (t' := ⟨⟨p3, s.w.n, c3⟩, ⟨p5, s.p.n, c5⟩, v, ⟨none, 0, 0⟩⟩) 1 (.slice p5 s.p.n c5) rfl rfl rfl rfl rfl rfl)
  have T5 := Lib.hid h5
  clear h5 x0 x1 xf xl q1 ql
  have x1 := K5.out.ob.box.c1
  have x5 := K5.out.ob.box.c5
  have xf := K5.out.ob.free 1
  have xl := K5.out.ob.box.lt
  have q5 := K5.out.hb.c5
  have ql := K5.out.hb.lt
  dsimp only at x1 x5
  go_wp2_with (at_builtin; refine list_bnew rfl (.tmp 21) (.tmp 23) rfl rfl rfl (HP.out.cards.below K6.out.bel) (by omega) ?_)
  intro p7 c7 w7 h7
  have K7 := Lib.hid (K6.out.next h7.bel)
  have K8 := Lib.hid (K7.out.set (t' := ⟨⟨p3, s.w.n, c3⟩, ⟨p5, s.p.n, c5⟩, v, ⟨p7, s.c.n, c7⟩⟩) 5 (.slice p7 s.c.n c7) rfl rfl rfl rfl rfl rfl)
  have T7 := Lib.hid h7
  clear h7 x1 x5 xf xl q5 ql
  have x0 := K7.out.ob.box.c0
  have x1 := K7.out.ob.box.c1
  have x2 := K7.out.ob.box.c2
  have x3 := K7.out.ob.box.c3
  have x4 := K7.out.ob.box.c4
  have x5 := K7.out.ob.box.c5
  have xf := K7.out.ob.free 5
  have xl := K7.out.ob.box.lt
  have y0 := K7.out.rb.box.c0
  have y1 := K7.out.rb.box.c1
  have y2 := K7.out.rb.box.c2
  have y3 := K7.out.rb.box.c3
  have y4 := K7.out.rb.box.c4
  have y5 := K7.out.rb.box.c5
  have yl := K7.out.rb.box.lt
  have f0 := K7.out.rb.free 0
  have f1 := K7.out.rb.free 1
  have f2 := K7.out.rb.free 2
  have f3 := K7.out.rb.free 3
  have f4 := K7.out.rb.free 4
  have f5 := K7.out.rb.free 5
  have hne : ¬ w.heap.size + 1 = w1.heap.size := by omega
  dsimp only [noHs, Ls.noSl] at x0 x1 x2 x3 x4 x5 y0 y1 y2 y3 y4 y5
  go_wp2
  have st := fun (a b : World) (h : Below a.heap.size a b) => (Stp.of_below (x := w1.heap.size) (y := w.heap.size + 1) h)
  have t7 : Stp w1.heap.size (w.heap.size + 1) w7 (put6 (w7.setCell ⟨w1.heap.size, 5, none⟩ (.slice p7 s.c.n c7)) (w.heap.size + 1) (.slice p3 s.w.n c3) (.slice p5 s.p.n c5) (.slice (v 0).a (v 0).n (v 0).c) (.slice (v 1).a (v 1).n (v 1).c) (.slice (v 2).a (v 2).n (v 2).c) (.slice p7 s.c.n c7)) := (Stp.set 5 _).trans (Stp.put _ _ _ _ _ _)
  have t5 := (Stp.set (x := w1.heap.size) (y := w.heap.size + 1) (w := w5) 1 (.slice p5 s.p.n c5)).trans ((st _ _ T7.out.bel).trans t7)
  have t3 := (Stp.set (x := w1.heap.size) (y := w.heap.size + 1) (w := w3) 0 (.slice p3 s.w.n c3)).trans ((st _ _ T5.out.bel).trans t5)
  have t1 := (st _ _ ((Below.refl w1.heap.size w1).alloc (Nat.le_refl _) (.cells #[.slice none 0 0, .slice none 0 0, .slice (v 0).a (v 0).n (v 0).c, .slice (v 1).a (v 1).n (v 1).c, .slice (v 2).a (v 2).n (v 2).c, .slice none 0 0] 28))).trans ((st _ _ T3.out.2).trans t3)
  refine bodyPost_ret (v := (.agg #[.slice (⟨⟨p3, s.w.n, c3⟩, ⟨p5, s.p.n, c5⟩, v, ⟨p7, s.c.n, c7⟩⟩ : Hs).w.a (⟨⟨p3, s.w.n, c3⟩, ⟨p5, s.p.n, c5⟩, v, ⟨p7, s.c.n, c7⟩⟩ : Hs).w.n (⟨⟨p3, s.w.n, c3⟩, ⟨p5, s.p.n, c5⟩, v, ⟨p7, s.c.n, c7⟩⟩ : Hs).w.c, .slice (⟨⟨p3, s.w.n, c3⟩, ⟨p5, s.p.n, c5⟩, v, ⟨p7, s.c.n, c7⟩⟩ : Hs).p.a (⟨⟨p3, s.w.n, c3⟩, ⟨p5, s.p.n, c5⟩, v, ⟨p7, s.c.n, c7⟩⟩ : Hs).p.n (⟨⟨p3, s.w.n, c3⟩, ⟨p5, s.p.n, c5⟩, v, ⟨p7, s.c.n, c7⟩⟩ : Hs).p.c, .slice ((⟨⟨p3, s.w.n, c3⟩, ⟨p5, s.p.n, c5⟩, v, ⟨p7, s.c.n, c7⟩⟩ : Hs).u 0).a ((⟨⟨p3, s.w.n, c3⟩, ⟨p5, s.p.n, c5⟩, v, ⟨p7, s.c.n, c7⟩⟩ : Hs).u 0).n ((⟨⟨p3, s.w.n, c3⟩, ⟨p5, s.p.n, c5⟩, v, ⟨p7, s.c.n, c7⟩⟩ : Hs).u 0).c, .slice ((⟨⟨p3, s.w.n, c3⟩, ⟨p5, s.p.n, c5⟩, v, ⟨p7, s.c.n, c7⟩⟩ : Hs).u 1).a ((⟨⟨p3, s.w.n, c3⟩, ⟨p5, s.p.n, c5⟩, v, ⟨p7, s.c.n, c7⟩⟩ : Hs).u 1).n ((⟨⟨p3, s.w.n, c3⟩, ⟨p5, s.p.n, c5⟩, v, ⟨p7, s.c.n, c7⟩⟩ : Hs).u 1).c, .slice ((⟨⟨p3, s.w.n, c3⟩, ⟨p5, s.p.n, c5⟩, v, ⟨p7, s.c.n, c7⟩⟩ : Hs).u 2).a ((⟨⟨p3, s.w.n, c3⟩, ⟨p5, s.p.n, c5⟩, v, ⟨p7, s.c.n, c7⟩⟩ : Hs).u 2).n ((⟨⟨p3, s.w.n, c3⟩, ⟨p5, s.p.n, c5⟩, v, ⟨p7, s.c.n, c7⟩⟩ : Hs).u 2).c, .slice (⟨⟨p3, s.w.n, c3⟩, ⟨p5, s.p.n, c5⟩, v, ⟨p7, s.c.n, c7⟩⟩ : Hs).c.a (⟨⟨p3, s.w.n, c3⟩, ⟨p5, s.p.n, c5⟩, v, ⟨p7, s.c.n, c7⟩⟩ : Hs).c.n (⟨⟨p3, s.w.n, c3⟩, ⟨p5, s.p.n, c5⟩, v, ⟨p7, s.c.n, c7⟩⟩ : Hs).c.c])) ?_ rfl (own7_end hl0 O1.out.2 O1.out.1 T3.out.1 (by have := T3.out.2.size; simpa using this) (by simp [World.setCell]) T5.out (by simp [World.setCell]) T7.out t1 t3 t5 t7 (below_put6 K8.out.bel (by omega) _ _ _ _ _ _) (fun j hj => by have h1 := O1.out.1.l3.len j hj; have h2 := HP.out.free.len j hj; omega))
  obtain ⟨k0, k1, k2, k3, k4, k5⟩ := put6_at K8.out.rb (.slice p3 s.w.n c3) (.slice p5 s.p.n c5) (.slice (v 0).a (v 0).n (v 0).c) (.slice (v 1).a (v 1).n (v 1).c) (.slice (v 2).a (v 2).n (v 2).c) (.slice p7 s.c.n c7)
  exact res_own rfl k0 k1 k2 k3 k4 k5
theorem rown7_any (s : Hs) (d : Hd_) (w : World) (hp : Hp w w.heap.size s d) (hwn : s.w.n ≤ 4000) (hpn : s.p.n ≤ 1000) (hcn : s.c.n ≤ 100000) (hun : ∀ j, j < 3 → (s.u j).n ≤ 2000000) : Calls Tryz.prog 32 #[(.agg #[.slice s.w.a s.w.n s.w.c, .slice s.p.a s.p.n s.p.c, .slice (s.u 0).a (s.u 0).n (s.u 0).c, .slice (s.u 1).a (s.u 1).n (s.u 1).c, .slice (s.u 2).a (s.u 2).n (s.u 2).c, .slice s.c.a s.c.n s.c.c])] w (OwnOut w s d) :=
  (rown7_full s d w hp hwn hpn hcn hun).mono fun _ _ ⟨t, h1, h2, _⟩ => ⟨t, h1, h2⟩
end Go.Proofs.YtccjelpfmkbmiaaGreatDoor
