/-
  Merged texts: RpLawC, RpLawD, HpApp, HpOwn7, RpOwn9, LsRPop, LsRMove, LsRPart, PgRefTake, PgSame, PgRefDrop.
-/
import Derived.Test.YtmalopciboikhaaGreatDoorHpRJ
import Derived.Test.YtmalopciboikhaaGreatDoorHpRH
import Derived.Test.YtmalopciboikhaaGreatDoorHpRA
import Derived.Test.YtmalopciboikhaaGreatDoorHpRF
import Derived.Deep.DrawnRows
import Derived.Test.YtmalopciboikhaaGreatDoorHpRI
import Derived.Test.YtmalopciboikhaaGreatDoorHpRD
section
namespace Go.Proofs.YtmalopciboikhaaGreatDoor.Rp
open Go.Proofs.YtmalopciboikhaaGreatDoor
open Go.RowKit
set_option maxRecDepth 100000

/-- What a law holds of a heap that is small, plainly. -/
structure Okl (s : Hs) (d : Hd_) : Prop where
  fine : Fine s d
  may : mayB0 s d = true
  ws : d.ws.length = s.w.n
theorem Okl.wp {s : Hs} {d : Hd_} (h : Okl s d) : s.w.n = 16 * s.p.n ∧ s.p.n ≤ 64 := by
  have := fit_first (mayH_all h.may).1
  exact ⟨this.wp, this.p⟩
end Go.Proofs.YtmalopciboikhaaGreatDoor.Rp
end
section
namespace Go.Proofs.YtmalopciboikhaaGreatDoor.Rp
open Go.Proofs.YtmalopciboikhaaGreatDoor
open Go.RowKit
set_option maxRecDepth 100000

theorem lens_of {w : World} {B : Nat} {s : Hs} {d : Hd_} {n C : Nat} {F : Nat → Nat → List Int} (hp : Hp w B s d) (h : Lite9 s d n F C) (hC : C ≤ 1000) : ∀ j, j < 3 → (s.u j).n ≤ 1000000 := fun j hj => by
  have h1 := hp.free.len j hj
  have h2 := h.lF j hj
  omega
theorem Okl.freed {s t : Hs} {d : Hd_} {n B : Nat} {F : Nat → Nat → List Int} {a : Int} (h : Okl s d) (hli : Lite9 s d n F B) (hB : B ≤ 900) (hE : headE s d a = 0) (hl : t.w.n = s.w.n ∧ t.p.n = s.p.n ∧ t.c.n = s.c.n) : Okl t (freedD d s.p.n a) :=
  ⟨(hli.freed (t := t) a hl).fine (by omega), freed_may0 (t := t) h.ws hE hl, by rw [(freed_is h.ws hE).len, h.ws, hl.1]⟩
end Go.Proofs.YtmalopciboikhaaGreatDoor.Rp
end
section
namespace Go.Proofs.YtmalopciboikhaaGreatDoor
open Go.RowKit
set_option maxRecDepth 100000

/-- What an append to nothing leaves. -/
structure PNew (w : World) (n : Nat) (f : Nat → Int × Int) (p : Option Addr) (w' : World) : Prop where
  row : Cl.PRow w' w'.heap.size p n f
  bel : Below w.heap.size w w'
  lies : ∀ x, p = some x → w.heap.size ≤ x.block
structure BNew (w : World) (n : Nat) (f : Nat → Bool) (p : Option Addr) (w' : World) : Prop where
  row : BRow w' w'.heap.size p n f
  bel : Below w.heap.size w w'
  lies : ∀ x, p = some x → w.heap.size ≤ x.block
theorem run_pnew {w : World} {B n c : Nat} {A : Option Addr} {f : Nat → Int × Int} (ty : TypeId) (hr : Cl.PRow w B A n f) (hn : n ≤ 1000) :
    ∃ p cp w', (Builtin.append_ #[23, 23] ty #[.slice none 0 0, .slice A n c]).run Tryz.prog w = .ok (.slice p n cp) w' ∧ PNew w n f p w' := by
  obtain ⟨i0, hi, hz0, hz1, hz2⟩ := info_parts Cl.info_page
  by_cases h0 : n = 0
  · subst h0
    have hsrc : Src Tryz.prog i0.size 23 (.slice A 0 c) 0 [] w := by
      rw [hz1]
      cases A with
      | none => exact Src.ofNil _ Tryz.underlying23 c
      | some a => exact Src.ofSlice _ Tryz.underlying23 a 0 c [] rfl (by simp) (by simp)
    exact ⟨none, 0, w, run_append_nothing w 23 23 ty 76 i0 Tryz.underlying23 hi none 0 0 (Nat.le_refl _) _ hsrc, ⟨fun h => absurd h (by omega), Below.refl _ _, fun x hx => by cases hx⟩⟩
  · obtain ⟨b, off, rfl, _, hc⟩ := hr (by omega)
    obtain ⟨g, cap, w', hrun, r1, r2, r3, r4⟩ := run_append_lies (P := Tryz.prog) w 23 ty w.heap.size 76 i0 (.agg #[.int .i64 0, .int .i64 0]) 2 16 Tryz.underlying23 hi hz0 hz1 hz2 rfl (by decide) _ _ _ (World.ownsRow_nil w w.heap.size 76 2) ⟨b, off, none⟩ n c (Cl.pcells f n) (Cl.pcells_length f n) (by
      intro j u hj
      rw [Addr.add_lit]
      exact Cl.pcells_of hc j u hj) Cl.pcells_one (by omega) (by unfold maxLen; omega) (by omega) (Nat.le_refl _) w.heap.size rfl
    have hown : w'.ownsRow w.heap.size 76 2 (.slice (some ⟨g, 0, none⟩) n cap) n (Cl.pcells f n) := by simpa using r1
    obtain ⟨g', c', e, hm⟩ := Cl.pmine_of hown (by omega)
    simp only [Value.slice.injEq, Option.some.injEq, Addr.mk.injEq, and_true, true_and] at e
    obtain ⟨rfl, rfl⟩ := e
    refine ⟨some ⟨g, 0, none⟩, cap, w', by simpa using hrun, ⟨hm.row, (Below.refl _ _).grown r2 (Nat.le_refl _) (by intro j hj; cases hj), fun x hx => ?_⟩⟩
    cases hx
    exact hm.2.1
theorem run_bnew {w : World} {B n c : Nat} {A : Option Addr} {f : Nat → Bool} (ty : TypeId) (hr : BRow w B A n f) (hn : n ≤ 1000000) :
    ∃ p cp w', (Builtin.append_ #[26, 26] ty #[.slice none 0 0, .slice A n c]).run Tryz.prog w = .ok (.slice p n cp) w' ∧ BNew w n f p w' := by
  obtain ⟨i0, hi, hz0, hz1, hz2⟩ := info_parts info_boolC
  by_cases h0 : n = 0
  · subst h0
    have hsrc : Src Tryz.prog i0.size 26 (.slice A 0 c) 0 [] w := by
      rw [hz1]
      cases A with
      | none => exact Src.ofNil _ Tryz.underlying26 c
      | some a => exact Src.ofSlice _ Tryz.underlying26 a 0 c [] rfl (by simp) (by simp)
    exact ⟨none, 0, w, run_append_nothing w 26 26 ty 4 i0 Tryz.underlying26 hi none 0 0 (Nat.le_refl _) _ hsrc, ⟨fun h => absurd h (by omega), Below.refl _ _, fun x hx => by cases hx⟩⟩
  · obtain ⟨b, off, rfl, _, hc⟩ := hr (by omega)
    obtain ⟨g, cap, w', hrun, r1, r2, r3, r4⟩ := run_append_lies (P := Tryz.prog) w 26 ty w.heap.size 4 i0 (.bool false) 1 1 Tryz.underlying26 hi hz0 hz1 hz2 rfl (by decide) _ _ _ (World.ownsRow_nil w w.heap.size 4 1) ⟨b, off, none⟩ n c (bcells f n) (by simp [bcells]) (by
      intro j u hj
      rw [Addr.add_lit]
      have hjn : j < n := by
        have := (List.getElem?_eq_some_iff.1 hj).1
        simpa [bcells] using this
      rw [bcells_at f n j hjn] at hj
      rw [← hj]
      exact hc j hjn) (by
      intro u hu
      obtain ⟨x, _, rfl⟩ := List.mem_map.1 hu
      rfl) (by omega) (by unfold maxLen; omega) (by omega) (Nat.le_refl _) w.heap.size rfl
    have hown : w'.ownsRow w.heap.size 4 1 (.slice (some ⟨g, 0, none⟩) n cap) n (bcells f n) := by simpa using r1
    obtain ⟨g', c', e, hm, hb, hl⟩ := bmade_of hown (by omega)
    simp only [Value.slice.injEq, Option.some.injEq, Addr.mk.injEq, and_true, true_and] at e
    obtain ⟨rfl, rfl⟩ := e
    refine ⟨some ⟨g, 0, none⟩, cap, w', by simpa using hrun, ⟨fun _ => ⟨g, 0, rfl, hl, fun i hi => by rw [Nat.zero_add]; exact hm i hi⟩, (Below.refl _ _).grown r2 (Nat.le_refl _) (by intro j hj; cases hj), fun x hx => ?_⟩⟩
    cases hx
    exact hb
theorem list_pnew {w : World} {ops : Array Oper} {rest : List Oper} {o : Oper} {a : Act} {Q : Exit → Act → World → Prop} (hgd : o.guard = none) (s x : Operand)
    (ho : o.op = .call { callee := .builtin .append, args := #[s, x], argTypes := #[23, 23] }) {B n c : Nat} {A : Option Addr} {f : Nat → Int × Int}
    (hs : a.eval s = .slice none 0 0) (hx : a.eval x = .slice A n c) (hr : Cl.PRow w B A n f) (hn : n ≤ 1000)
    (hK : ∀ p cp w', PNew w n f p w' → wpList Tryz.prog ops Q rest (a.put o.dst (.slice p n cp)) w') : wpList Tryz.prog ops Q (o :: rest) a w :=
  wpList_plain hgd fun _ hK' => by
    obtain ⟨p, cp, w', hrun, h1⟩ := run_pnew (c := c) o.type hr hn
    unfold Oper.wp execOp
    simp only [ho, resolve, invoke, builtin, Sem.run_bind, Sem.run_pure, Result.andThen_ok, List.map_toArray, List.map_cons, List.map_nil, hs, hx, hrun]
    exact hK' _ _ (hK p cp w' h1)
theorem list_bnew {w : World} {ops : Array Oper} {rest : List Oper} {o : Oper} {a : Act} {Q : Exit → Act → World → Prop} (hgd : o.guard = none) (s x : Operand)
    (ho : o.op = .call { callee := .builtin .append, args := #[s, x], argTypes := #[26, 26] }) {B n c : Nat} {A : Option Addr} {f : Nat → Bool}
    (hs : a.eval s = .slice none 0 0) (hx : a.eval x = .slice A n c) (hr : BRow w B A n f) (hn : n ≤ 1000000)
    (hK : ∀ p cp w', BNew w n f p w' → wpList Tryz.prog ops Q rest (a.put o.dst (.slice p n cp)) w') : wpList Tryz.prog ops Q (o :: rest) a w :=
  wpList_plain hgd fun _ hK' => by
    obtain ⟨p, cp, w', hrun, h1⟩ := run_bnew (c := c) o.type hr hn
    unfold Oper.wp execOp
    simp only [ho, resolve, invoke, builtin, Sem.run_bind, Sem.run_pure, Result.andThen_ok, List.map_toArray, List.map_cons, List.map_nil, hs, hx, hrun]
    exact hK' _ _ (hK p cp w' h1)
/-- Two blocks alone are turned, of those that were there. -/
def Stp (x y : Nat) (w w' : World) : Prop := w.heap.size ≤ w'.heap.size ∧ ∀ k, k < w.heap.size → ¬ k = x → ¬ k = y → w'.heap[k]? = w.heap[k]?
section
variable {x y : Nat} {w w' w'' : World}
theorem Stp.trans (h : Stp x y w w') (h' : Stp x y w' w'') : Stp x y w w'' := ⟨Nat.le_trans h.1 h'.1, fun k hk h1 h2 => (h'.2 k (Nat.lt_of_lt_of_le hk h.1) h1 h2).trans (h.2 k hk h1 h2)⟩
theorem Stp.of_below (h : Below w.heap.size w w') : Stp x y w w' := ⟨h.size, fun k hk _ _ => h.block k hk⟩
theorem Stp.set (j : Nat) (v : Value) : Stp x y w (w.setCell ⟨x, j, none⟩ v) := ⟨by simp [World.setCell], fun _ _ h1 _ => Below.heap_setCell _ _ _ _ h1⟩
theorem Stp.put (v0 v1 v2 v3 v4 v5 : Value) : Stp x y w (put6 w y v0 v1 v2 v3 v4 v5) := ⟨by rw [put6_size]; exact Nat.le_refl _, fun _ _ _ h2 => put6_other _ _ _ _ _ _ _ _ h2⟩
/-- A slice lies in neither. -/
def Out2 (x y : Nat) (v : Ls.Sl) : Prop := 0 < v.n → ∀ z, v.a = some z → ¬ z.block = x ∧ ¬ z.block = y
theorem row_stp {v : Ls.Sl} {xs : List Int} (h : Row w w.heap.size v.a v.n xs) (ho : Out2 x y v) (hs : Stp x y w w') : Row w' w'.heap.size v.a v.n xs := by
  refine (row_same h fun hn z hz => ?_).more hs.1
  obtain ⟨b, off, e, hlt, _⟩ := h.2 hn
  rw [hz] at e
  cases e
  exact hs.2 _ hlt (ho hn _ hz).1 (ho hn _ hz).2
theorem prow_stp {v : Ls.Sl} {f : Nat → Int × Int} (h : Cl.PRow w w.heap.size v.a v.n f) (ho : Out2 x y v) (hs : Stp x y w w') : Cl.PRow w' w'.heap.size v.a v.n f := fun hn => by
  obtain ⟨b, off, e, hlt, hc⟩ := h hn
  have hb := hs.2 b hlt (ho hn _ e).1 (ho hn _ e).2
  exact ⟨b, off, e, Nat.lt_of_lt_of_le hlt hs.1, fun i hi => ⟨(World.cell?_of_block (a := ⟨b, off + i * 2, none⟩) hb).trans (hc i hi).1, (World.cell?_of_block (a := ⟨b, off + i * 2 + 1, none⟩) hb).trans (hc i hi).2⟩⟩
theorem brow_stp {v : Ls.Sl} {f : Nat → Bool} (h : BRow w w.heap.size v.a v.n f) (ho : Out2 x y v) (hs : Stp x y w w') : BRow w' w'.heap.size v.a v.n f := fun hn => by
  obtain ⟨b, off, e, hlt, hc⟩ := h hn
  have hb := hs.2 b hlt (ho hn _ e).1 (ho hn _ e).2
  exact ⟨b, off, e, Nat.lt_of_lt_of_le hlt hs.1, fun i hi => (World.cell?_of_block (a := ⟨b, off + i, none⟩) hb).trans (hc i hi)⟩
end
end Go.Proofs.YtmalopciboikhaaGreatDoor
end
section
namespace Go.Proofs.YtmalopciboikhaaGreatDoor
open Go.RowKit
set_option maxRecDepth 100000

/-- What Own leaves. -/
def OwnOut (w : World) (s : Hs) (d : Hd_) (e : Ending) (w' : World) : Prop :=
  ∃ t : Hs, e = .returned (.agg #[.slice t.w.a t.w.n t.w.c, .slice t.p.a t.p.n t.p.c, .slice (t.u 0).a (t.u 0).n (t.u 0).c, .slice (t.u 1).a (t.u 1).n (t.u 1).c, .slice (t.u 2).a (t.u 2).n (t.u 2).c, .slice t.c.a t.c.n t.c.c]) ∧ w'.ownsRow w.heap.size 3 1 (.slice t.w.a t.w.n t.w.c) t.w.n (d.ws.map (Value.int .i64)) ∧ Hp w' w'.heap.size t d ∧ Lens s t ∧ News w.heap.size t ∧
    (∀ x, t.w.a = some x → (0 < t.p.n → ∀ z, t.p.a = some z → ¬ z.block = x.block) ∧ (∀ j, j < 3 → 0 < (t.u j).n → ∀ z, (t.u j).a = some z → ¬ z.block = x.block) ∧ (0 < t.c.n → ∀ z, t.c.a = some z → ¬ z.block = x.block)) ∧ Below w.heap.size w w'
theorem own7_end {w W0 w1 w3 w4 w5 w6 w7 w9 : World} {s : Hs} {d : Hd_} {v : Nat → Ls.Sl} {p3 p5 p7 : Option Addr} {c3 c5 c7 : Nat} (hl0 : w.heap.size + 1 < W0.heap.size) (hb1 : Below W0.heap.size W0 w1) (ho1 : Ls.Own3 w1 W0.heap.size v d.F)
    (h3 : w3.ownsRow (w1.heap.size + 1) 3 1 (.slice p3 s.w.n c3) s.w.n (d.ws.map (Value.int .i64))) (hs3 : w1.heap.size + 1 ≤ w3.heap.size) (e4 : w4.heap.size = w3.heap.size) (h5 : PNew w4 s.p.n d.f p5 w5) (e6 : w6.heap.size = w5.heap.size) (h7 : BNew w6 s.c.n d.cs p7 w7)
    (t1 : Stp w1.heap.size (w.heap.size + 1) w1 w9) (t3 : Stp w1.heap.size (w.heap.size + 1) w3 w9) (t5 : Stp w1.heap.size (w.heap.size + 1) w5 w9) (t7 : Stp w1.heap.size (w.heap.size + 1) w7 w9) (hbel : Below w.heap.size w w9) (hun : ∀ j, j < 3 → (v j).n = (s.u j).n) :
    OwnOut w s d (.returned (.agg #[.slice (⟨⟨p3, s.w.n, c3⟩, ⟨p5, s.p.n, c5⟩, v, ⟨p7, s.c.n, c7⟩⟩ : Hs).w.a (⟨⟨p3, s.w.n, c3⟩, ⟨p5, s.p.n, c5⟩, v, ⟨p7, s.c.n, c7⟩⟩ : Hs).w.n (⟨⟨p3, s.w.n, c3⟩, ⟨p5, s.p.n, c5⟩, v, ⟨p7, s.c.n, c7⟩⟩ : Hs).w.c, .slice (⟨⟨p3, s.w.n, c3⟩, ⟨p5, s.p.n, c5⟩, v, ⟨p7, s.c.n, c7⟩⟩ : Hs).p.a (⟨⟨p3, s.w.n, c3⟩, ⟨p5, s.p.n, c5⟩, v, ⟨p7, s.c.n, c7⟩⟩ : Hs).p.n (⟨⟨p3, s.w.n, c3⟩, ⟨p5, s.p.n, c5⟩, v, ⟨p7, s.c.n, c7⟩⟩ : Hs).p.c, .slice ((⟨⟨p3, s.w.n, c3⟩, ⟨p5, s.p.n, c5⟩, v, ⟨p7, s.c.n, c7⟩⟩ : Hs).u 0).a ((⟨⟨p3, s.w.n, c3⟩, ⟨p5, s.p.n, c5⟩, v, ⟨p7, s.c.n, c7⟩⟩ : Hs).u 0).n ((⟨⟨p3, s.w.n, c3⟩, ⟨p5, s.p.n, c5⟩, v, ⟨p7, s.c.n, c7⟩⟩ : Hs).u 0).c, .slice ((⟨⟨p3, s.w.n, c3⟩, ⟨p5, s.p.n, c5⟩, v, ⟨p7, s.c.n, c7⟩⟩ : Hs).u 1).a ((⟨⟨p3, s.w.n, c3⟩, ⟨p5, s.p.n, c5⟩, v, ⟨p7, s.c.n, c7⟩⟩ : Hs).u 1).n ((⟨⟨p3, s.w.n, c3⟩, ⟨p5, s.p.n, c5⟩, v, ⟨p7, s.c.n, c7⟩⟩ : Hs).u 1).c, .slice ((⟨⟨p3, s.w.n, c3⟩, ⟨p5, s.p.n, c5⟩, v, ⟨p7, s.c.n, c7⟩⟩ : Hs).u 2).a ((⟨⟨p3, s.w.n, c3⟩, ⟨p5, s.p.n, c5⟩, v, ⟨p7, s.c.n, c7⟩⟩ : Hs).u 2).n ((⟨⟨p3, s.w.n, c3⟩, ⟨p5, s.p.n, c5⟩, v, ⟨p7, s.c.n, c7⟩⟩ : Hs).u 2).c, .slice (⟨⟨p3, s.w.n, c3⟩, ⟨p5, s.p.n, c5⟩, v, ⟨p7, s.c.n, c7⟩⟩ : Hs).c.a (⟨⟨p3, s.w.n, c3⟩, ⟨p5, s.p.n, c5⟩, v, ⟨p7, s.c.n, c7⟩⟩ : Hs).c.n (⟨⟨p3, s.w.n, c3⟩, ⟨p5, s.p.n, c5⟩, v, ⟨p7, s.c.n, c7⟩⟩ : Hs).c.c])) w9 := by
  have z1 := hb1.size
  have z5 := h5.bel.size
  obtain ⟨a3, k3, e3, hr3, _, _⟩ := Ls.owns_row h3
  simp only [Value.slice.injEq, true_and] at e3
  obtain ⟨rfl, rfl⟩ := e3
  have l3 : ∀ x, p3 = some x → w1.heap.size + 1 ≤ x.block ∧ x.block < w3.heap.size := fun x hx => h3.lt x.block (by rw [Ls.ownBlock_slice, hx]; rfl)
  have lv : ∀ j, j < 3 → ∀ x, (v j).a = some x → W0.heap.size ≤ x.block ∧ x.block < w1.heap.size := fun j hj x hx => ho1.block j hj hx
  have hv := ho1.l3
  refine ⟨⟨⟨p3, s.w.n, c3⟩, ⟨p5, s.p.n, c5⟩, v, ⟨p7, s.c.n, c7⟩⟩, rfl, ?_, ⟨?_, ?_, fun j hj => ⟨?_, (hv j hj).2⟩, ?_⟩, ⟨rfl, rfl, hun, rfl⟩, ⟨fun _ x hx => by have := (l3 x hx).1; omega, fun _ x hx => by have := h5.lies x hx; omega, fun j hj _ x hx => by have := (lv j hj x hx).1; omega, fun _ x hx => by have := h7.lies x hx; omega⟩, fun x hx => ⟨fun _ z hz => ?_, fun j hj _ z hz => ?_, fun _ z hz => ?_⟩, hbel⟩
  · have h3' : w3.ownsRow w.heap.size 3 1 (.slice p3 s.w.n c3) s.w.n (d.ws.map (Value.int .i64)) := ⟨h3.1, h3.2.imp id fun ⟨g, cap, cur, e, hg, r⟩ => ⟨g, cap, cur, e, by omega, r⟩⟩
    refine Ls.World.ownsRow.same h3' fun g hg hlt => ?_
    rw [Ls.ownBlock_slice] at hg
    cases hp3 : p3 with
    | none => rw [hp3] at hg; cases hg
    | some x =>
      rw [hp3] at hg
      simp at hg
      subst hg
      exact t3.2 _ hlt (by have := (l3 x hp3).1; omega) (by have := (l3 x hp3).1; omega)
  · exact row_stp (v := ⟨p3, s.w.n, c3⟩) hr3 (fun _ z hz => by have := (l3 z hz).1; exact ⟨by omega, by omega⟩) t3
  · exact prow_stp (v := ⟨p5, s.p.n, c5⟩) h5.row (fun _ z hz => by have := h5.lies z hz; exact ⟨by omega, by omega⟩) t5
  · exact row_stp (hv j hj).1 (fun _ z hz => by have := lv j hj z hz; exact ⟨by omega, by omega⟩) t1
  · exact brow_stp (v := ⟨p7, s.c.n, c7⟩) h7.row (fun _ z hz => by have := h7.lies z hz; exact ⟨by omega, by omega⟩) t7
  · have h1 := (l3 x hx).2
    have h2 := h5.lies z hz
    omega
  · have h1 := (l3 x hx).1
    have h2 := (lv j hj z hz).2
    omega
  · have h1 := (l3 x hx).2
    have h2 := h7.lies z hz
    omega
/-- What a walk through Own has in memory. -/
structure Ow (w W : World) (bo : Nat) (s t : Hs) : Prop where
  bel : Below w.heap.size w W
  hb : HBox W w.heap.size s
  rb : Box6 W (w.heap.size + 1) noHs
  ob : Box6 W bo t
  lo : w.heap.size + 2 ≤ bo
theorem Ow.next {w W W' : World} {bo : Nat} {s t : Hs} (h : Ow w W bo s t) (hb : Below W.heap.size W W') : Ow w W' bo s t := ⟨h.bel.trans (hb.mono h.bel.size), h.hb.next hb, h.rb.next hb, h.ob.next hb, h.lo⟩
theorem Ow.set {w W : World} {bo : Nat} {s t t' : Hs} (h : Ow w W bo s t) (k : Nat) (x : Value)
    (e0 : Value.slice t'.w.a t'.w.n t'.w.c = if 0 = k then x else .slice t.w.a t.w.n t.w.c) (e1 : Value.slice t'.p.a t'.p.n t'.p.c = if 1 = k then x else .slice t.p.a t.p.n t.p.c)
    (e2 : Value.slice (t'.u 0).a (t'.u 0).n (t'.u 0).c = if 2 = k then x else .slice (t.u 0).a (t.u 0).n (t.u 0).c) (e3 : Value.slice (t'.u 1).a (t'.u 1).n (t'.u 1).c = if 3 = k then x else .slice (t.u 1).a (t.u 1).n (t.u 1).c)
    (e4 : Value.slice (t'.u 2).a (t'.u 2).n (t'.u 2).c = if 4 = k then x else .slice (t.u 2).a (t.u 2).n (t.u 2).c) (e5 : Value.slice t'.c.a t'.c.n t'.c.c = if 5 = k then x else .slice t.c.a t.c.n t.c.c) : Ow w (W.setCell ⟨bo, k, none⟩ x) bo s t' := by
  have hsz : W.heap.size = (W.setCell ⟨bo, k, none⟩ x).heap.size := by simp [World.setCell]
  have hoth : ∀ j, ¬ j = bo → (W.setCell ⟨bo, k, none⟩ x).heap[j]? = W.heap[j]? := fun j hj => Below.heap_setCell _ _ _ _ hj
  have hlo := h.lo
  have hB : Box6 W bo t := h.ob
  exact ⟨h.bel.setCell (p := ⟨bo, k, none⟩) (by show w.heap.size ≤ bo; omega) _, hbox_same h.hb (hoth _ (by omega)) (Nat.le_of_eq hsz), h.rb.same (hoth _ (by omega)) (Nat.le_of_eq hsz),
    ⟨⟨cell_set hB.box.c0 e0, cell_set hB.box.c1 e1, cell_set hB.box.c2 e2, cell_set hB.box.c3 e3, cell_set hB.box.c4 e4, cell_set hB.box.c5 e5, by rw [← hsz]; exact hB.box.lt⟩, frozen_set hB.free⟩, hlo⟩
theorem res_own {W : World} {b : Nat} {tm : Array Value} {v0 v1 v2 v3 v4 v5 : Value} (ht : tm[2]? = some (.pointer (some ⟨b, 0, none⟩))) (k0 : W.cell? ⟨b, 0, none⟩ = some v0) (k1 : W.cell? ⟨b, 1, none⟩ = some v1) (k2 : W.cell? ⟨b, 2, none⟩ = some v2) (k3 : W.cell? ⟨b, 3, none⟩ = some v3) (k4 : W.cell? ⟨b, 4, none⟩ = some v4) (k5 : W.cell? ⟨b, 5, none⟩ = some v5) :
    (results Tryz.f8 tm).run Tryz.prog W = .ok (.agg #[v0, v1, v2, v3, v4, v5]) W := by
  simp [results, Tryz.results8, go_sem, ht, k0, k1, k2, k3, k4, k5]
set_option maxHeartbeats 2000000 in
theorem rown7_any (s : Hs) (d : Hd_) (w : World) (hp : Hp w w.heap.size s d) (hwn : s.w.n ≤ 4000) (hpn : s.p.n ≤ 1000) (hcn : s.c.n ≤ 100000) (hun : ∀ j, j < 3 → (s.u j).n ≤ 2000000) : Calls Tryz.prog 8 #[(.agg #[.slice s.w.a s.w.n s.w.c, .slice s.p.a s.p.n s.p.c, .slice (s.u 0).a (s.u 0).n (s.u 0).c, .slice (s.u 1).a (s.u 1).n (s.u 1).c, .slice (s.u 2).a (s.u 2).n (s.u 2).c, .slice s.c.a s.c.n s.c.c])] w (OwnOut w s d) := by
  have HP := Lib.hid hp
  have HUN := Lib.hid hun
  clear hp hun
  go_enter Tryz.func8, Tryz.ntmps8
  go_wp2_with fail
  obtain ⟨W0, hW0⟩ : ∃ W0, W0 = (w.alloc (.cells #[.slice s.w.a s.w.n s.w.c, .slice s.p.a s.p.n s.p.c, .slice (s.u 0).a (s.u 0).n (s.u 0).c, .slice (s.u 1).a (s.u 1).n (s.u 1).c, .slice (s.u 2).a (s.u 2).n (s.u 2).c, .slice s.c.a s.c.n s.c.c] 28)).alloc (.cells #[.slice none 0 0, .slice none 0 0, .slice none 0 0, .slice none 0 0, .slice none 0 0, .slice none 0 0] 28) := ⟨_, rfl⟩
  have K0 := Lib.hid (cp_start HP.out hW0)
  rw [← hW0]
  clear hW0
  have hl0 : w.heap.size + 1 < W0.heap.size := K0.out.res.box.lt
  refine (Ls.rown_any W0.heap.size s.u d.F W0 K0.out.hp.free (Nat.le_refl _) HUN.out).mono ?_
  rintro e9 w1 ⟨v, rfl, ho1, hb1⟩
  have O1 := Lib.hid (And.intro ho1 hb1)
  have hs1 := hb1.size
  have bOB := HBox.new w1 ⟨⟨none, 0, 0⟩, ⟨none, 0, 0⟩, v, ⟨none, 0, 0⟩⟩ 28
  have fOB : ∀ j, (w1.alloc (.cells #[.slice none 0 0, .slice none 0 0, .slice (v 0).a (v 0).n (v 0).c, .slice (v 1).a (v 1).n (v 1).c, .slice (v 2).a (v 2).n (v 2).c, .slice none 0 0] 28)).frozen? ⟨w1.heap.size, j, none⟩ = false := fun j => by simp [go_sem]
  have b2 := (Below.refl w1.heap.size w1).alloc (Nat.le_refl _) (.cells #[.slice none 0 0, .slice none 0 0, .slice (v 0).a (v 0).n (v 0).c, .slice (v 1).a (v 1).n (v 1).c, .slice (v 2).a (v 2).n (v 2).c, .slice none 0 0] 28)
  have K1 := K0.out.next hb1
  have K2 : Hid (Ow w (w1.alloc (.cells #[.slice none 0 0, .slice none 0 0, .slice (v 0).a (v 0).n (v 0).c, .slice (v 1).a (v 1).n (v 1).c, .slice (v 2).a (v 2).n (v 2).c, .slice none 0 0] 28)) w1.heap.size s ⟨⟨none, 0, 0⟩, ⟨none, 0, 0⟩, v, ⟨none, 0, 0⟩⟩) := Lib.hid ⟨(K1.next b2).bel, (K1.next b2).box.box, (K1.next b2).res, ⟨bOB, fOB⟩, by omega⟩
  clear ho1 hb1 bOB fOB b2 K1 K0
  have q0 := K2.out.hb.c0
  have ql := K2.out.hb.lt
  go_wp2_with (at_builtin; refine Ls.list_cat rfl (.tmp 9) (.tmp 11) rfl rfl rfl (xs := []) (base := w1.heap.size + 1) (World.ownsRow_nil _ _ _ _) (HP.out.words.below K2.out.bel) (by simp) (by omega) ?_)
  intro p3 c3 w3 hcat
  have h3 : w3.ownsRow (w1.heap.size + 1) 3 1 (.slice p3 s.w.n c3) s.w.n (d.ws.map (Value.int .i64)) := by simpa using hcat.own
  have b3 : Below (w1.alloc (.cells #[.slice none 0 0, .slice none 0 0, .slice (v 0).a (v 0).n (v 0).c, .slice (v 1).a (v 1).n (v 1).c, .slice (v 2).a (v 2).n (v 2).c, .slice none 0 0] 28)).heap.size (w1.alloc (.cells #[.slice none 0 0, .slice none 0 0, .slice (v 0).a (v 0).n (v 0).c, .slice (v 1).a (v 1).n (v 1).c, .slice (v 2).a (v 2).n (v 2).c, .slice none 0 0] 28)) w3 := (Below.refl _ _).grown hcat.grown (Nat.le_refl _) (by intro j hj; cases hj)
  have K3 := Lib.hid (K2.out.next b3)
  have K4 := Lib.hid (K3.out.set (t' := ⟨⟨p3, s.w.n, c3⟩, ⟨none, 0, 0⟩, v, ⟨none, 0, 0⟩⟩) 0 (.slice p3 s.w.n c3) rfl rfl rfl rfl rfl rfl)
  have T3 := Lib.hid (And.intro h3 b3)
  clear hcat h3 b3 q0 ql
  have x0 := K3.out.ob.box.c0
  have x1 := K3.out.ob.box.c1
  have xf := K3.out.ob.free 0
  have xl := K3.out.ob.box.lt
  have q1 := K3.out.hb.c1
  have ql := K3.out.hb.lt
  dsimp only at x0 x1
  go_wp2_with (at_builtin; refine list_pnew rfl (.tmp 15) (.tmp 17) rfl rfl rfl (HP.out.pages.below K4.out.bel) hpn ?_)
  intro p5 c5 w5 h5
  have K5 := Lib.hid (K4.out.next h5.bel)
  have K6 := Lib.hid (K5.out.set (t' := ⟨⟨p3, s.w.n, c3⟩, ⟨p5, s.p.n, c5⟩, v, ⟨none, 0, 0⟩⟩) 1 (.slice p5 s.p.n c5) rfl rfl rfl rfl rfl rfl)
  have T5 := Lib.hid h5
  clear h5 x0 x1 xf xl q1 ql
  have x1 := K5.out.ob.box.c1
  have x5 := K5.out.ob.box.c5
  have xf := K5.out.ob.free 1
  have xl := K5.out.ob.box.lt
  have q5 := K5.out.hb.c5
  have ql := K5.out.hb.lt
  dsimp only at x1 x5
  go_wp2_with (at_builtin; refine list_bnew rfl (.tmp 21) (.tmp 23) rfl rfl rfl (HP.out.cards.below K6.out.bel) (by omega) ?_)
  intro p7 c7 w7 h7
  have K7 := Lib.hid (K6.out.next h7.bel)
  have K8 := Lib.hid (K7.out.set (t' := ⟨⟨p3, s.w.n, c3⟩, ⟨p5, s.p.n, c5⟩, v, ⟨p7, s.c.n, c7⟩⟩) 5 (.slice p7 s.c.n c7) rfl rfl rfl rfl rfl rfl)
  have T7 := Lib.hid h7
  clear h7 x1 x5 xf xl q5 ql
  have x0 := K7.out.ob.box.c0
  have x1 := K7.out.ob.box.c1
  have x2 := K7.out.ob.box.c2
  have x3 := K7.out.ob.box.c3
  have x4 := K7.out.ob.box.c4
  have x5 := K7.out.ob.box.c5
  have xf := K7.out.ob.free 5
  have xl := K7.out.ob.box.lt
  have y0 := K7.out.rb.box.c0
  have y1 := K7.out.rb.box.c1
  have y2 := K7.out.rb.box.c2
  have y3 := K7.out.rb.box.c3
  have y4 := K7.out.rb.box.c4
  have y5 := K7.out.rb.box.c5
  have yl := K7.out.rb.box.lt
  have f0 := K7.out.rb.free 0
  have f1 := K7.out.rb.free 1
  have f2 := K7.out.rb.free 2
  have f3 := K7.out.rb.free 3
  have f4 := K7.out.rb.free 4
  have f5 := K7.out.rb.free 5
  have hne : ¬ w.heap.size + 1 = w1.heap.size := by omega
  dsimp only [noHs, Ls.noSl] at x0 x1 x2 x3 x4 x5 y0 y1 y2 y3 y4 y5
  go_wp2
  have st := fun (a b : World) (h : Below a.heap.size a b) => (Stp.of_below (x := w1.heap.size) (y := w.heap.size + 1) h)
  have t7 : Stp w1.heap.size (w.heap.size + 1) w7 (put6 (w7.setCell ⟨w1.heap.size, 5, none⟩ (.slice p7 s.c.n c7)) (w.heap.size + 1) (.slice p3 s.w.n c3) (.slice p5 s.p.n c5) (.slice (v 0).a (v 0).n (v 0).c) (.slice (v 1).a (v 1).n (v 1).c) (.slice (v 2).a (v 2).n (v 2).c) (.slice p7 s.c.n c7)) := (Stp.set 5 _).trans (Stp.put _ _ _ _ _ _)
  have t5 := (Stp.set (x := w1.heap.size) (y := w.heap.size + 1) (w := w5) 1 (.slice p5 s.p.n c5)).trans ((st _ _ T7.out.bel).trans t7)
  have t3 := (Stp.set (x := w1.heap.size) (y := w.heap.size + 1) (w := w3) 0 (.slice p3 s.w.n c3)).trans ((st _ _ T5.out.bel).trans t5)
  have t1 := (st _ _ ((Below.refl w1.heap.size w1).alloc (Nat.le_refl _) (.cells #[.slice none 0 0, .slice none 0 0, .slice (v 0).a (v 0).n (v 0).c, .slice (v 1).a (v 1).n (v 1).c, .slice (v 2).a (v 2).n (v 2).c, .slice none 0 0] 28))).trans ((st _ _ T3.out.2).trans t3)
  refine bodyPost_ret (v := (.agg #[.slice (⟨⟨p3, s.w.n, c3⟩, ⟨p5, s.p.n, c5⟩, v, ⟨p7, s.c.n, c7⟩⟩ : Hs).w.a (⟨⟨p3, s.w.n, c3⟩, ⟨p5, s.p.n, c5⟩, v, ⟨p7, s.c.n, c7⟩⟩ : Hs).w.n (⟨⟨p3, s.w.n, c3⟩, ⟨p5, s.p.n, c5⟩, v, ⟨p7, s.c.n, c7⟩⟩ : Hs).w.c, .slice (⟨⟨p3, s.w.n, c3⟩, ⟨p5, s.p.n, c5⟩, v, ⟨p7, s.c.n, c7⟩⟩ : Hs).p.a (⟨⟨p3, s.w.n, c3⟩, ⟨p5, s.p.n, c5⟩, v, ⟨p7, s.c.n, c7⟩⟩ : Hs).p.n (⟨⟨p3, s.w.n, c3⟩, ⟨p5, s.p.n, c5⟩, v, ⟨p7, s.c.n, c7⟩⟩ : Hs).p.c, .slice ((⟨⟨p3, s.w.n, c3⟩, ⟨p5, s.p.n, c5⟩, v, ⟨p7, s.c.n, c7⟩⟩ : Hs).u 0).a ((⟨⟨p3, s.w.n, c3⟩, ⟨p5, s.p.n, c5⟩, v, ⟨p7, s.c.n, c7⟩⟩ : Hs).u 0).n ((⟨⟨p3, s.w.n, c3⟩, ⟨p5, s.p.n, c5⟩, v, ⟨p7, s.c.n, c7⟩⟩ : Hs).u 0).c, .slice ((⟨⟨p3, s.w.n, c3⟩, ⟨p5, s.p.n, c5⟩, v, ⟨p7, s.c.n, c7⟩⟩ : Hs).u 1).a ((⟨⟨p3, s.w.n, c3⟩, ⟨p5, s.p.n, c5⟩, v, ⟨p7, s.c.n, c7⟩⟩ : Hs).u 1).n ((⟨⟨p3, s.w.n, c3⟩, ⟨p5, s.p.n, c5⟩, v, ⟨p7, s.c.n, c7⟩⟩ : Hs).u 1).c, .slice ((⟨⟨p3, s.w.n, c3⟩, ⟨p5, s.p.n, c5⟩, v, ⟨p7, s.c.n, c7⟩⟩ : Hs).u 2).a ((⟨⟨p3, s.w.n, c3⟩, ⟨p5, s.p.n, c5⟩, v, ⟨p7, s.c.n, c7⟩⟩ : Hs).u 2).n ((⟨⟨p3, s.w.n, c3⟩, ⟨p5, s.p.n, c5⟩, v, ⟨p7, s.c.n, c7⟩⟩ : Hs).u 2).c, .slice (⟨⟨p3, s.w.n, c3⟩, ⟨p5, s.p.n, c5⟩, v, ⟨p7, s.c.n, c7⟩⟩ : Hs).c.a (⟨⟨p3, s.w.n, c3⟩, ⟨p5, s.p.n, c5⟩, v, ⟨p7, s.c.n, c7⟩⟩ : Hs).c.n (⟨⟨p3, s.w.n, c3⟩, ⟨p5, s.p.n, c5⟩, v, ⟨p7, s.c.n, c7⟩⟩ : Hs).c.c])) ?_ rfl (own7_end hl0 O1.out.2 O1.out.1 T3.out.1 (by have := T3.out.2.size; simpa using this) (by simp [World.setCell]) T5.out (by simp [World.setCell]) T7.out t1 t3 t5 t7 (below_put6 K8.out.bel (by omega) _ _ _ _ _ _) (fun j hj => by have h1 := O1.out.1.l3.len j hj; have h2 := HP.out.free.len j hj; omega))
  obtain ⟨k0, k1, k2, k3, k4, k5⟩ := put6_at K8.out.rb (.slice p3 s.w.n c3) (.slice p5 s.p.n c5) (.slice (v 0).a (v 0).n (v 0).c) (.slice (v 1).a (v 1).n (v 1).c) (.slice (v 2).a (v 2).n (v 2).c) (.slice p7 s.c.n c7)
  exact res_own rfl k0 k1 k2 k3 k4 k5
end Go.Proofs.YtmalopciboikhaaGreatDoor
end
section
namespace Go.Proofs.YtmalopciboikhaaGreatDoor
open Go.RowKit
set_option maxRecDepth 100000

/-- What Own leaves, all of it. -/
def OwnOut9 (w : World) (s : Hs) (d : Hd_) (e : Ending) (w' : World) : Prop :=
  ∃ t : Hs, e = .returned (.agg #[.slice t.w.a t.w.n t.w.c, .slice t.p.a t.p.n t.p.c, .slice (t.u 0).a (t.u 0).n (t.u 0).c, .slice (t.u 1).a (t.u 1).n (t.u 1).c, .slice (t.u 2).a (t.u 2).n (t.u 2).c, .slice t.c.a t.c.n t.c.c]) ∧ w'.ownsRow w.heap.size 3 1 (.slice t.w.a t.w.n t.w.c) t.w.n (d.ws.map (Value.int .i64)) ∧ Hp w' w'.heap.size t d ∧ Lens s t ∧ Ls.Own3 w' w.heap.size t.u d.F ∧
    (∀ x, t.w.a = some x → (0 < t.p.n → ∀ z, t.p.a = some z → ¬ z.block = x.block) ∧ (∀ j, j < 3 → ∀ z, (t.u j).a = some z → ¬ z.block = x.block) ∧ (0 < t.c.n → ∀ z, t.c.a = some z → ¬ z.block = x.block)) ∧
    (∀ j, j < 3 → ∀ x, (t.u j).a = some x → (0 < t.p.n → ∀ z, t.p.a = some z → ¬ z.block = x.block) ∧ (0 < t.c.n → ∀ z, t.c.a = some z → ¬ z.block = x.block)) ∧ Below w.heap.size w w'
theorem own9_end {w W0 w1 w3 w4 w5 w6 w7 w9 : World} {s : Hs} {d : Hd_} {v : Nat → Ls.Sl} {p3 p5 p7 : Option Addr} {c3 c5 c7 : Nat} (hl0 : w.heap.size + 1 < W0.heap.size) (hb1 : Below W0.heap.size W0 w1) (ho1 : Ls.Own3 w1 W0.heap.size v d.F)
    (h3 : w3.ownsRow (w1.heap.size + 1) 3 1 (.slice p3 s.w.n c3) s.w.n (d.ws.map (Value.int .i64))) (hs3 : w1.heap.size + 1 ≤ w3.heap.size) (e4 : w4.heap.size = w3.heap.size) (h5 : PNew w4 s.p.n d.f p5 w5) (e6 : w6.heap.size = w5.heap.size) (h7 : BNew w6 s.c.n d.cs p7 w7)
    (t1 : Stp w1.heap.size (w.heap.size + 1) w1 w9) (t3 : Stp w1.heap.size (w.heap.size + 1) w3 w9) (t5 : Stp w1.heap.size (w.heap.size + 1) w5 w9) (t7 : Stp w1.heap.size (w.heap.size + 1) w7 w9) (hbel : Below w.heap.size w w9) (hun : ∀ j, j < 3 → (v j).n = (s.u j).n) :
    OwnOut9 w s d (.returned (.agg #[.slice (⟨⟨p3, s.w.n, c3⟩, ⟨p5, s.p.n, c5⟩, v, ⟨p7, s.c.n, c7⟩⟩ : Hs).w.a (⟨⟨p3, s.w.n, c3⟩, ⟨p5, s.p.n, c5⟩, v, ⟨p7, s.c.n, c7⟩⟩ : Hs).w.n (⟨⟨p3, s.w.n, c3⟩, ⟨p5, s.p.n, c5⟩, v, ⟨p7, s.c.n, c7⟩⟩ : Hs).w.c, .slice (⟨⟨p3, s.w.n, c3⟩, ⟨p5, s.p.n, c5⟩, v, ⟨p7, s.c.n, c7⟩⟩ : Hs).p.a (⟨⟨p3, s.w.n, c3⟩, ⟨p5, s.p.n, c5⟩, v, ⟨p7, s.c.n, c7⟩⟩ : Hs).p.n (⟨⟨p3, s.w.n, c3⟩, ⟨p5, s.p.n, c5⟩, v, ⟨p7, s.c.n, c7⟩⟩ : Hs).p.c, .slice ((⟨⟨p3, s.w.n, c3⟩, ⟨p5, s.p.n, c5⟩, v, ⟨p7, s.c.n, c7⟩⟩ : Hs).u 0).a ((⟨⟨p3, s.w.n, c3⟩, ⟨p5, s.p.n, c5⟩, v, ⟨p7, s.c.n, c7⟩⟩ : Hs).u 0).n ((⟨⟨p3, s.w.n, c3⟩, ⟨p5, s.p.n, c5⟩, v, ⟨p7, s.c.n, c7⟩⟩ : Hs).u 0).c, .slice ((⟨⟨p3, s.w.n, c3⟩, ⟨p5, s.p.n, c5⟩, v, ⟨p7, s.c.n, c7⟩⟩ : Hs).u 1).a ((⟨⟨p3, s.w.n, c3⟩, ⟨p5, s.p.n, c5⟩, v, ⟨p7, s.c.n, c7⟩⟩ : Hs).u 1).n ((⟨⟨p3, s.w.n, c3⟩, ⟨p5, s.p.n, c5⟩, v, ⟨p7, s.c.n, c7⟩⟩ : Hs).u 1).c, .slice ((⟨⟨p3, s.w.n, c3⟩, ⟨p5, s.p.n, c5⟩, v, ⟨p7, s.c.n, c7⟩⟩ : Hs).u 2).a ((⟨⟨p3, s.w.n, c3⟩, ⟨p5, s.p.n, c5⟩, v, ⟨p7, s.c.n, c7⟩⟩ : Hs).u 2).n ((⟨⟨p3, s.w.n, c3⟩, ⟨p5, s.p.n, c5⟩, v, ⟨p7, s.c.n, c7⟩⟩ : Hs).u 2).c, .slice (⟨⟨p3, s.w.n, c3⟩, ⟨p5, s.p.n, c5⟩, v, ⟨p7, s.c.n, c7⟩⟩ : Hs).c.a (⟨⟨p3, s.w.n, c3⟩, ⟨p5, s.p.n, c5⟩, v, ⟨p7, s.c.n, c7⟩⟩ : Hs).c.n (⟨⟨p3, s.w.n, c3⟩, ⟨p5, s.p.n, c5⟩, v, ⟨p7, s.c.n, c7⟩⟩ : Hs).c.c])) w9 := by
  have z1 := hb1.size
  have z5 := h5.bel.size
  obtain ⟨a3, k3, e3, hr3, _, _⟩ := Ls.owns_row h3
  simp only [Value.slice.injEq, true_and] at e3
  obtain ⟨rfl, rfl⟩ := e3
  have l3 : ∀ x, p3 = some x → w1.heap.size + 1 ≤ x.block ∧ x.block < w3.heap.size := fun x hx => h3.lt x.block (by rw [Ls.ownBlock_slice, hx]; rfl)
  have lv : ∀ j, j < 3 → ∀ x, (v j).a = some x → W0.heap.size ≤ x.block ∧ x.block < w1.heap.size := fun j hj x hx => ho1.block j hj hx
  have hv := ho1.l3
  refine ⟨⟨⟨p3, s.w.n, c3⟩, ⟨p5, s.p.n, c5⟩, v, ⟨p7, s.c.n, c7⟩⟩, rfl, ?_, ⟨?_, ?_, fun j hj => ⟨?_, (hv j hj).2⟩, ?_⟩, ⟨rfl, rfl, hun, rfl⟩, (Ls.Own3.same ho1 fun j x hj hx => t1.2 _ (lv j hj x hx).2 (by have := (lv j hj x hx).2; omega) (by have := (lv j hj x hx).1; omega)).less (by omega), fun x hx => ⟨fun _ z hz => ?_, fun j hj z hz => ?_, fun _ z hz => ?_⟩, fun j hj x hx => ⟨fun _ z hz => by have h1 := (lv j hj x hx).2; have h2 := h5.lies z hz; omega, fun _ z hz => by have h1 := (lv j hj x hx).2; have h2 := h7.lies z hz; omega⟩, hbel⟩
  · have h3' : w3.ownsRow w.heap.size 3 1 (.slice p3 s.w.n c3) s.w.n (d.ws.map (Value.int .i64)) := ⟨h3.1, h3.2.imp id fun ⟨g, cap, cur, e, hg, r⟩ => ⟨g, cap, cur, e, by omega, r⟩⟩
    refine Ls.World.ownsRow.same h3' fun g hg hlt => ?_
    rw [Ls.ownBlock_slice] at hg
    cases hp3 : p3 with
    | none => rw [hp3] at hg; cases hg
    | some x =>
      rw [hp3] at hg
      simp at hg
      subst hg
      exact t3.2 _ hlt (by have := (l3 x hp3).1; omega) (by have := (l3 x hp3).1; omega)
  · exact row_stp (v := ⟨p3, s.w.n, c3⟩) hr3 (fun _ z hz => by have := (l3 z hz).1; exact ⟨by omega, by omega⟩) t3
  · exact prow_stp (v := ⟨p5, s.p.n, c5⟩) h5.row (fun _ z hz => by have := h5.lies z hz; exact ⟨by omega, by omega⟩) t5
  · exact row_stp (hv j hj).1 (fun _ z hz => by have := lv j hj z hz; exact ⟨by omega, by omega⟩) t1
  · exact brow_stp (v := ⟨p7, s.c.n, c7⟩) h7.row (fun _ z hz => by have := h7.lies z hz; exact ⟨by omega, by omega⟩) t7
  · have h1 := (l3 x hx).2
    have h2 := h5.lies z hz
    omega
  · have h1 := (l3 x hx).1
    have h2 := (lv j hj z hz).2
    omega
  · have h1 := (l3 x hx).2
    have h2 := h7.lies z hz
    omega
set_option maxHeartbeats 2000000 in
theorem rown9_any (s : Hs) (d : Hd_) (w : World) (hp : Hp w w.heap.size s d) (hwn : s.w.n ≤ 4000) (hpn : s.p.n ≤ 1000) (hcn : s.c.n ≤ 100000) (hun : ∀ j, j < 3 → (s.u j).n ≤ 2000000) : Calls Tryz.prog 8 #[(.agg #[.slice s.w.a s.w.n s.w.c, .slice s.p.a s.p.n s.p.c, .slice (s.u 0).a (s.u 0).n (s.u 0).c, .slice (s.u 1).a (s.u 1).n (s.u 1).c, .slice (s.u 2).a (s.u 2).n (s.u 2).c, .slice s.c.a s.c.n s.c.c])] w (OwnOut9 w s d) := by
  have HP := Lib.hid hp
  have HUN := Lib.hid hun
  clear hp hun
  go_enter Tryz.func8, Tryz.ntmps8
  go_wp2_with fail
  obtain ⟨W0, hW0⟩ : ∃ W0, W0 = (w.alloc (.cells #[.slice s.w.a s.w.n s.w.c, .slice s.p.a s.p.n s.p.c, .slice (s.u 0).a (s.u 0).n (s.u 0).c, .slice (s.u 1).a (s.u 1).n (s.u 1).c, .slice (s.u 2).a (s.u 2).n (s.u 2).c, .slice s.c.a s.c.n s.c.c] 28)).alloc (.cells #[.slice none 0 0, .slice none 0 0, .slice none 0 0, .slice none 0 0, .slice none 0 0, .slice none 0 0] 28) := ⟨_, rfl⟩
  have K0 := Lib.hid (cp_start HP.out hW0)
  rw [← hW0]
  clear hW0
  have hl0 : w.heap.size + 1 < W0.heap.size := K0.out.res.box.lt
  refine (Ls.rown_any W0.heap.size s.u d.F W0 K0.out.hp.free (Nat.le_refl _) HUN.out).mono ?_
  rintro e9 w1 ⟨v, rfl, ho1, hb1⟩
  have O1 := Lib.hid (And.intro ho1 hb1)
  have hs1 := hb1.size
  have bOB := HBox.new w1 ⟨⟨none, 0, 0⟩, ⟨none, 0, 0⟩, v, ⟨none, 0, 0⟩⟩ 28
  have fOB : ∀ j, (w1.alloc (.cells #[.slice none 0 0, .slice none 0 0, .slice (v 0).a (v 0).n (v 0).c, .slice (v 1).a (v 1).n (v 1).c, .slice (v 2).a (v 2).n (v 2).c, .slice none 0 0] 28)).frozen? ⟨w1.heap.size, j, none⟩ = false := fun j => by simp [go_sem]
  have b2 := (Below.refl w1.heap.size w1).alloc (Nat.le_refl _) (.cells #[.slice none 0 0, .slice none 0 0, .slice (v 0).a (v 0).n (v 0).c, .slice (v 1).a (v 1).n (v 1).c, .slice (v 2).a (v 2).n (v 2).c, .slice none 0 0] 28)
  have K1 := K0.out.next hb1
  have K2 : Hid (Ow w (w1.alloc (.cells #[.slice none 0 0, .slice none 0 0, .slice (v 0).a (v 0).n (v 0).c, .slice (v 1).a (v 1).n (v 1).c, .slice (v 2).a (v 2).n (v 2).c, .slice none 0 0] 28)) w1.heap.size s ⟨⟨none, 0, 0⟩, ⟨none, 0, 0⟩, v, ⟨none, 0, 0⟩⟩) := Lib.hid ⟨(K1.next b2).bel, (K1.next b2).box.box, (K1.next b2).res, ⟨bOB, fOB⟩, by omega⟩
  clear ho1 hb1 bOB fOB b2 K1 K0
  have q0 := K2.out.hb.c0
  have ql := K2.out.hb.lt
  go_wp2_with (at_builtin; refine Ls.list_cat rfl (.tmp 9) (.tmp 11) rfl rfl rfl (xs := []) (base := w1.heap.size + 1) (World.ownsRow_nil _ _ _ _) (HP.out.words.below K2.out.bel) (by simp) (by omega) ?_)
  intro p3 c3 w3 hcat
  have h3 : w3.ownsRow (w1.heap.size + 1) 3 1 (.slice p3 s.w.n c3) s.w.n (d.ws.map (Value.int .i64)) := by simpa using hcat.own
  have b3 : Below (w1.alloc (.cells #[.slice none 0 0, .slice none 0 0, .slice (v 0).a (v 0).n (v 0).c, .slice (v 1).a (v 1).n (v 1).c, .slice (v 2).a (v 2).n (v 2).c, .slice none 0 0] 28)).heap.size (w1.alloc (.cells #[.slice none 0 0, .slice none 0 0, .slice (v 0).a (v 0).n (v 0).c, .slice (v 1).a (v 1).n (v 1).c, .slice (v 2).a (v 2).n (v 2).c, .slice none 0 0] 28)) w3 := (Below.refl _ _).grown hcat.grown (Nat.le_refl _) (by intro j hj; cases hj)
  have K3 := Lib.hid (K2.out.next b3)
  have K4 := Lib.hid (K3.out.set (t' := ⟨⟨p3, s.w.n, c3⟩, ⟨none, 0, 0⟩, v, ⟨none, 0, 0⟩⟩) 0 (.slice p3 s.w.n c3) rfl rfl rfl rfl rfl rfl)
  have T3 := Lib.hid (And.intro h3 b3)
  clear hcat h3 b3 q0 ql
  have x0 := K3.out.ob.box.c0
  have x1 := K3.out.ob.box.c1
  have xf := K3.out.ob.free 0
  have xl := K3.out.ob.box.lt
  have q1 := K3.out.hb.c1
  have ql := K3.out.hb.lt
  dsimp only at x0 x1
  go_wp2_with (at_builtin; refine list_pnew rfl (.tmp 15) (.tmp 17) rfl rfl rfl (HP.out.pages.below K4.out.bel) hpn ?_)
  intro p5 c5 w5 h5
  have K5 := Lib.hid (K4.out.next h5.bel)
  have K6 := Lib.hid (K5.out.set (t' := ⟨⟨p3, s.w.n, c3⟩, ⟨p5, s.p.n, c5⟩, v, ⟨none, 0, 0⟩⟩) 1 (.slice p5 s.p.n c5) rfl rfl rfl rfl rfl rfl)
  have T5 := Lib.hid h5
  clear h5 x0 x1 xf xl q1 ql
  have x1 := K5.out.ob.box.c1
  have x5 := K5.out.ob.box.c5
  have xf := K5.out.ob.free 1
  have xl := K5.out.ob.box.lt
  have q5 := K5.out.hb.c5
  have ql := K5.out.hb.lt
  dsimp only at x1 x5
  go_wp2_with (at_builtin; refine list_bnew rfl (.tmp 21) (.tmp 23) rfl rfl rfl (HP.out.cards.below K6.out.bel) (by omega) ?_)
  intro p7 c7 w7 h7
  have K7 := Lib.hid (K6.out.next h7.bel)
  have K8 := Lib.hid (K7.out.set (t' := ⟨⟨p3, s.w.n, c3⟩, ⟨p5, s.p.n, c5⟩, v, ⟨p7, s.c.n, c7⟩⟩) 5 (.slice p7 s.c.n c7) rfl rfl rfl rfl rfl rfl)
  have T7 := Lib.hid h7
  clear h7 x1 x5 xf xl q5 ql
  have x0 := K7.out.ob.box.c0
  have x1 := K7.out.ob.box.c1
  have x2 := K7.out.ob.box.c2
  have x3 := K7.out.ob.box.c3
  have x4 := K7.out.ob.box.c4
  have x5 := K7.out.ob.box.c5
  have xf := K7.out.ob.free 5
  have xl := K7.out.ob.box.lt
  have y0 := K7.out.rb.box.c0
  have y1 := K7.out.rb.box.c1
  have y2 := K7.out.rb.box.c2
  have y3 := K7.out.rb.box.c3
  have y4 := K7.out.rb.box.c4
  have y5 := K7.out.rb.box.c5
  have yl := K7.out.rb.box.lt
  have f0 := K7.out.rb.free 0
  have f1 := K7.out.rb.free 1
  have f2 := K7.out.rb.free 2
  have f3 := K7.out.rb.free 3
  have f4 := K7.out.rb.free 4
  have f5 := K7.out.rb.free 5
  have hne : ¬ w.heap.size + 1 = w1.heap.size := by omega
  dsimp only [noHs, Ls.noSl] at x0 x1 x2 x3 x4 x5 y0 y1 y2 y3 y4 y5
  go_wp2
  have st := fun (a b : World) (h : Below a.heap.size a b) => (Stp.of_below (x := w1.heap.size) (y := w.heap.size + 1) h)
  have t7 : Stp w1.heap.size (w.heap.size + 1) w7 (put6 (w7.setCell ⟨w1.heap.size, 5, none⟩ (.slice p7 s.c.n c7)) (w.heap.size + 1) (.slice p3 s.w.n c3) (.slice p5 s.p.n c5) (.slice (v 0).a (v 0).n (v 0).c) (.slice (v 1).a (v 1).n (v 1).c) (.slice (v 2).a (v 2).n (v 2).c) (.slice p7 s.c.n c7)) := (Stp.set 5 _).trans (Stp.put _ _ _ _ _ _)
  have t5 := (Stp.set (x := w1.heap.size) (y := w.heap.size + 1) (w := w5) 1 (.slice p5 s.p.n c5)).trans ((st _ _ T7.out.bel).trans t7)
  have t3 := (Stp.set (x := w1.heap.size) (y := w.heap.size + 1) (w := w3) 0 (.slice p3 s.w.n c3)).trans ((st _ _ T5.out.bel).trans t5)
  have t1 := (st _ _ ((Below.refl w1.heap.size w1).alloc (Nat.le_refl _) (.cells #[.slice none 0 0, .slice none 0 0, .slice (v 0).a (v 0).n (v 0).c, .slice (v 1).a (v 1).n (v 1).c, .slice (v 2).a (v 2).n (v 2).c, .slice none 0 0] 28))).trans ((st _ _ T3.out.2).trans t3)
  refine bodyPost_ret (v := (.agg #[.slice (⟨⟨p3, s.w.n, c3⟩, ⟨p5, s.p.n, c5⟩, v, ⟨p7, s.c.n, c7⟩⟩ : Hs).w.a (⟨⟨p3, s.w.n, c3⟩, ⟨p5, s.p.n, c5⟩, v, ⟨p7, s.c.n, c7⟩⟩ : Hs).w.n (⟨⟨p3, s.w.n, c3⟩, ⟨p5, s.p.n, c5⟩, v, ⟨p7, s.c.n, c7⟩⟩ : Hs).w.c, .slice (⟨⟨p3, s.w.n, c3⟩, ⟨p5, s.p.n, c5⟩, v, ⟨p7, s.c.n, c7⟩⟩ : Hs).p.a (⟨⟨p3, s.w.n, c3⟩, ⟨p5, s.p.n, c5⟩, v, ⟨p7, s.c.n, c7⟩⟩ : Hs).p.n (⟨⟨p3, s.w.n, c3⟩, ⟨p5, s.p.n, c5⟩, v, ⟨p7, s.c.n, c7⟩⟩ : Hs).p.c, .slice ((⟨⟨p3, s.w.n, c3⟩, ⟨p5, s.p.n, c5⟩, v, ⟨p7, s.c.n, c7⟩⟩ : Hs).u 0).a ((⟨⟨p3, s.w.n, c3⟩, ⟨p5, s.p.n, c5⟩, v, ⟨p7, s.c.n, c7⟩⟩ : Hs).u 0).n ((⟨⟨p3, s.w.n, c3⟩, ⟨p5, s.p.n, c5⟩, v, ⟨p7, s.c.n, c7⟩⟩ : Hs).u 0).c, .slice ((⟨⟨p3, s.w.n, c3⟩, ⟨p5, s.p.n, c5⟩, v, ⟨p7, s.c.n, c7⟩⟩ : Hs).u 1).a ((⟨⟨p3, s.w.n, c3⟩, ⟨p5, s.p.n, c5⟩, v, ⟨p7, s.c.n, c7⟩⟩ : Hs).u 1).n ((⟨⟨p3, s.w.n, c3⟩, ⟨p5, s.p.n, c5⟩, v, ⟨p7, s.c.n, c7⟩⟩ : Hs).u 1).c, .slice ((⟨⟨p3, s.w.n, c3⟩, ⟨p5, s.p.n, c5⟩, v, ⟨p7, s.c.n, c7⟩⟩ : Hs).u 2).a ((⟨⟨p3, s.w.n, c3⟩, ⟨p5, s.p.n, c5⟩, v, ⟨p7, s.c.n, c7⟩⟩ : Hs).u 2).n ((⟨⟨p3, s.w.n, c3⟩, ⟨p5, s.p.n, c5⟩, v, ⟨p7, s.c.n, c7⟩⟩ : Hs).u 2).c, .slice (⟨⟨p3, s.w.n, c3⟩, ⟨p5, s.p.n, c5⟩, v, ⟨p7, s.c.n, c7⟩⟩ : Hs).c.a (⟨⟨p3, s.w.n, c3⟩, ⟨p5, s.p.n, c5⟩, v, ⟨p7, s.c.n, c7⟩⟩ : Hs).c.n (⟨⟨p3, s.w.n, c3⟩, ⟨p5, s.p.n, c5⟩, v, ⟨p7, s.c.n, c7⟩⟩ : Hs).c.c])) ?_ rfl (own9_end hl0 O1.out.2 O1.out.1 T3.out.1 (by have := T3.out.2.size; simpa using this) (by simp [World.setCell]) T5.out (by simp [World.setCell]) T7.out t1 t3 t5 t7 (below_put6 K8.out.bel (by omega) _ _ _ _ _ _) (fun j hj => by have h1 := O1.out.1.l3.len j hj; have h2 := HP.out.free.len j hj; omega))
  obtain ⟨k0, k1, k2, k3, k4, k5⟩ := put6_at K8.out.rb (.slice p3 s.w.n c3) (.slice p5 s.p.n c5) (.slice (v 0).a (v 0).n (v 0).c) (.slice (v 1).a (v 1).n (v 1).c) (.slice (v 2).a (v 2).n (v 2).c) (.slice p7 s.c.n c7)
  exact res_own rfl k0 k1 k2 k3 k4 k5
end Go.Proofs.YtmalopciboikhaaGreatDoor
end
section
namespace Go.Proofs.YtmalopciboikhaaGreatDoor.Ls
open Go.Proofs.YtmalopciboikhaaGreatDoor
set_option maxRecDepth 100000
open Go.RowKit
attribute [local go_sem ↓] Go.wp_at_zero Go.wp_at_succ

end Go.Proofs.YtmalopciboikhaaGreatDoor.Ls
end
section
namespace Go.Proofs.YtmalopciboikhaaGreatDoor.Ls
open Go.Proofs.YtmalopciboikhaaGreatDoor
set_option maxRecDepth 100000
open Go.RowKit
attribute [local go_sem ↓] Go.wp_at_zero Go.wp_at_succ

/-- Rows that nobody appends to. -/
def tRows (U : Nat → Sl) (F : Nat → List Int) : Thing :=
  ⟨fun b => ∃ j x, j < 3 ∧ 0 < (U j).n ∧ (U j).a = some x ∧ x.block = b, fun w => L3 w w.heap.size U F, fun _ _ h hl hs j hj => ⟨⟨(h j hj).1.1, fun hn => by
    obtain ⟨b, off, e, hb, hc⟩ := (h j hj).1.2 hn
    exact ⟨b, off, e, Nat.lt_of_lt_of_le hb hl, fun i hi => (World.cell?_of_block (a := ⟨b, off + i, none⟩) (hs b ⟨j, _, hj, hn, e, rfl⟩)).trans (hc i hi)⟩⟩, (h j hj).2⟩⟩
/-- Between two rounds of Move. -/
structure MvR (w wr : World) (R : Nat → Option Thing) (d1 d2 : Nat) (U V : Nat → Sl) (F G : Nat → List Int) : Prop where
  lst : Lst w.heap.size w wr R d2 V G
  rows : R 3 = some (tRows U F)
  abox : R 4 = some (tBox d1 U)
  res8 : R 2 = some (tBox (w.heap.size + 1 + 1) noSl)
  res9 : R 5 = some (tBox (w.heap.size + 1 + 1 + 1) noSl)
section
variable {w wr w6 w9 : World} {R : Nat → Option Thing} {d1 d2 k : Nat} {U V p : Nat → Sl} {F G F' : Nat → List Int} {s : Sl} {xs : List Int} {o : Obj}
theorem MvR.l3 (h : MvR w wr R d1 d2 U V F G) : L3 wr wr.heap.size U F := (h.lst.res.ok 3 _ h.rows).1
theorem MvR.a (h : MvR w wr R d1 d2 U V F G) : Box3 wr d1 U := h.lst.res.box h.abox
theorem MvR.b8 (h : MvR w wr R d1 d2 U V F G) : Box3 wr (w.heap.size + 1 + 1) noSl := h.lst.res.box h.res8
theorem MvR.b9 (h : MvR w wr R d1 d2 U V F G) : Box3 wr (w.heap.size + 1 + 1 + 1) noSl := h.lst.res.box h.res9
theorem MvR.cat (h : MvR w wr R d1 d2 U V F G) (hk : k < 3) (hc : Catted (wr.alloc o) w.heap.size (.slice (V k).a (V k).n (V k).c) s xs w9) :
    ∃ R', MvR w (w9.setCell ⟨d2, k, none⟩ (.slice s.a s.n s.c)) R' d1 d2 U (upd V k s) F (upd G k xs) := by
  obtain ⟨R', hL, hK⟩ := h.lst.cat hk hc
  exact ⟨R', hL, (hK 3 (by decide)).trans h.rows, (hK 4 (by decide)).trans h.abox, (hK 2 (by decide)).trans h.res8, (hK 5 (by decide)).trans h.res9⟩
theorem MvR.done (h : MvR w wr R d1 d2 U V F G) :
    L3 (put3 (put3 wr (w.heap.size + 1 + 1) U) (w.heap.size + 1 + 1 + 1) V) (put3 (put3 wr (w.heap.size + 1 + 1) U) (w.heap.size + 1 + 1 + 1) V).heap.size U F ∧
    L3 (put3 (put3 wr (w.heap.size + 1 + 1) U) (w.heap.size + 1 + 1 + 1) V) (put3 (put3 wr (w.heap.size + 1 + 1) U) (w.heap.size + 1 + 1 + 1) V).heap.size V G ∧ Below w.heap.size w (put3 (put3 wr (w.heap.size + 1 + 1) U) (w.heap.size + 1 + 1 + 1) V) := by
  have R1 := h.lst.res.put h.lst.big h.res8 U
  have e5 : upd R 2 (some (tBox (w.heap.size + 1 + 1) U)) 5 = some (tBox (w.heap.size + 1 + 1 + 1) noSl) := by rw [upd_other _ _ (by decide)]; exact h.res9
  have R2 := R1.put (by rw [put3_size]; exact h.lst.big) e5 V
  exact ⟨(R2.ok 3 (tRows U F) (by rw [upd_other _ _ (by decide), upd_other _ _ (by decide)]; exact h.rows)).1, (R2.own (r := 0) (by rw [upd_other _ _ (by decide), upd_other _ _ (by decide)]; exact h.lst.own)).l3, R2.bel⟩
end
theorem moveOut_drew {w W : World} {U V : Nat → Sl} {F G : Nat → List Int} (h1 : L3 W W.heap.size U F) (h2 : L3 W W.heap.size V G) (h3 : Below w.heap.size w W) : MoveOut w F G 0 (.returned (.tuple #[(.agg #[.slice (U 0).a (U 0).n (U 0).c, .slice (U 1).a (U 1).n (U 1).c, .slice (U 2).a (U 2).n (U 2).c]), (.agg #[.slice (V 0).a (V 0).n (V 0).c, .slice (V 1).a (V 1).n (V 1).c, .slice (V 2).a (V 2).n (V 2).c]), .int .i64 0])) W.drew :=
  ⟨U, V, rfl, h1.drewN 1, h2.drewN 1, below_drawn h3 1⟩
theorem MvR.out {w wr : World} {R : Nat → Option Thing} {d1 d2 : Nat} {U V : Nat → Sl} {F G : Nat → List Int} (h : MvR w wr R d1 d2 U V F G) : ∀ W, W = (put3 (put3 wr (w.heap.size + 1 + 1) U) (w.heap.size + 1 + 1 + 1) V).drew → MoveOut w F G 0 (.returned (.tuple #[(.agg #[.slice (U 0).a (U 0).n (U 0).c, .slice (U 1).a (U 1).n (U 1).c, .slice (U 2).a (U 2).n (U 2).c]), (.agg #[.slice (V 0).a (V 0).n (V 0).c, .slice (V 1).a (V 1).n (V 1).c, .slice (V 2).a (V 2).n (V 2).c]), .int .i64 0])) W := by
  rintro W rfl
  exact moveOut_drew h.done.1 h.done.2.1 h.done.2.2
/-- The boxes are apart. -/
theorem MvR.far {w wr : World} {R : Nat → Option Thing} {d1 d2 : Nat} {U V : Nat → Sl} {F G : Nat → List Int} (h : MvR w wr R d1 d2 U V F G) : ¬ d1 = w.heap.size + 1 + 1 ∧ ¬ d1 = w.heap.size + 1 + 1 + 1 ∧ ¬ d2 = w.heap.size + 1 + 1 ∧ ¬ d2 = w.heap.size + 1 + 1 + 1 :=
  ⟨fun e => h.lst.res.apart 4 2 _ _ h.abox h.res8 (by decide) d1 rfl e, fun e => h.lst.res.apart 4 5 _ _ h.abox h.res9 (by decide) d1 rfl e, fun e => h.lst.res.apart 1 2 _ _ h.lst.box h.res8 (by decide) d2 rfl e, fun e => h.lst.res.apart 1 5 _ _ h.lst.box h.res9 (by decide) d2 rfl e⟩

end Go.Proofs.YtmalopciboikhaaGreatDoor.Ls
end
section
namespace Go.Proofs.YtmalopciboikhaaGreatDoor.Ls
open Go.Proofs.YtmalopciboikhaaGreatDoor
set_option maxRecDepth 100000
open Go.RowKit

/-- A slice of one's own. -/
def tOne (base : Nat) (p : Sl) (zs : List Int) : Thing :=
  ⟨fun b => ∃ x, p.a = some x ∧ x.block = b, fun w => w.ownsRow base 3 1 (.slice p.a p.n p.c) p.n (zs.map (Value.int .i64)), fun _ _ h _ hs => World.ownsRow.same h (fun g hg _ => hs g (by
    rw [ownBlock_slice] at hg
    cases hx : p.a with
    | none => rw [hx] at hg; cases hg
    | some x =>
      rw [hx] at hg
      simp at hg
      exact ⟨x, rfl, hg⟩))⟩
structure PtR (w wr : World) (R : Nat → Option Thing) (d : Nat) (u V : Nat → Sl) (G : Nat → List Int) (p : Sl) (zs : List Int) : Prop where
  lst : Lst w.heap.size w wr R d V G
  part : R 4 = some (tOne w.heap.size p zs)
  ubox : R 3 = some (tBox w.heap.size u)
  res8 : R 2 = some (tBox (w.heap.size + 1) noSl)
section
variable {w wr w2 : World} {R : Nat → Option Thing} {d k : Nat} {u V : Nat → Sl} {G : Nat → List Int} {p s : Sl} {zs xs : List Int} {o : Obj}
theorem PtR.own (h : PtR w wr R d u V G p zs) : wr.ownsRow w.heap.size 3 1 (.slice p.a p.n p.c) p.n (zs.map (Value.int .i64)) := (h.lst.res.ok 4 _ h.part).1
theorem PtR.ub (h : PtR w wr R d u V G p zs) : Box3 wr w.heap.size u := h.lst.res.box h.ubox
theorem PtR.b8 (h : PtR w wr R d u V G p zs) : Box3 wr (w.heap.size + 1) noSl := h.lst.res.box h.res8
theorem PtR.len (h : PtR w wr R d u V G p zs) : p.n = zs.length := by have := h.own.1; simpa using this.symm
theorem PtR.row (h : PtR w wr R d u V G p zs) (o : Obj) : (wr.alloc o).ownsRow w.heap.size 3 1 (.slice p.a p.n p.c) p.n (zs.map (Value.int .i64)) :=
  World.ownsRow.same h.own (fun _ _ hlt => Below.heap_alloc _ _ _ hlt)
/-- Not in: appended to the class. -/
theorem PtR.no (h : PtR w wr R d u V G p zs) (hk : k < 3) (hc : Catted (wr.alloc o) w.heap.size (.slice (V k).a (V k).n (V k).c) s xs w2) :
    ∃ R', PtR w (w2.setCell ⟨d, k, none⟩ (.slice s.a s.n s.c)) R' d u (upd V k s) (upd G k xs) p zs := by
  obtain ⟨R', hL, hK⟩ := h.lst.cat hk hc
  exact ⟨R', hL, (hK 4 (by decide)).trans h.part, (hK 3 (by decide)).trans h.ubox, (hK 2 (by decide)).trans h.res8⟩
/-- In: appended to those that are parted. -/
theorem PtR.yes (h : PtR w wr R d u V G p zs) (hc : Catted (wr.alloc o) w.heap.size (.slice p.a p.n p.c) s xs w2) : ∃ R', PtR w w2 R' d u V G s xs := by
  have hs : (wr.alloc o).heap.size = wr.heap.size + 1 := by simp
  have R1 := h.lst.res.change (w' := w2) h.lst.big h.part (hc.grown.os.trans rfl) (hc.grown.tape.trans rfl) (hc.grown.output.trans rfl) (by have := hc.grown.size; omega) (fun b hb hbk => by
    refine (hc.grown.block b (by omega) (fun e => hbk ?_)).trans (Below.heap_alloc _ _ _ hb)
    rw [ownBlock_slice] at e
    cases hx : p.a with
    | none => rw [hx] at e; cases e
    | some x =>
      rw [hx] at e
      simp at e
      exact ⟨x, hx, e.symm⟩) (tOne w.heap.size s xs) hc.own (fun b ⟨x, hx, e⟩ => by
    subst e
    refine ⟨?_, (own_block hc.own hx).2⟩
    rcases hc.lies x hx with e | e
    · left
      rw [ownBlock_slice] at e
      cases hy : p.a with
      | none => rw [hy] at e; cases e
      | some y =>
        rw [hy] at e
        simp at e
        exact ⟨y, hy, e⟩
    · right
      omega)
  refine ⟨_, ⟨R1, ?_, ?_, by have := h.lst.big; have := hc.grown.size; omega⟩, upd_same _ _ _, ?_, ?_⟩
  · rw [upd_other _ _ (by decide)]; exact h.lst.own
  · rw [upd_other _ _ (by decide)]; exact h.lst.box
  · rw [upd_other _ _ (by decide)]; exact h.ubox
  · rw [upd_other _ _ (by decide)]; exact h.res8
theorem PtR.out (h : PtR w wr R d u V G p zs) : ∀ W, W = put3 wr (w.heap.size + 1) V → PartOut w G zs 0 (.returned (.tuple #[(.agg #[.slice (V 0).a (V 0).n (V 0).c, .slice (V 1).a (V 1).n (V 1).c, .slice (V 2).a (V 2).n (V 2).c]), .slice p.a p.n p.c, .int .i64 0])) W := by
  rintro W rfl
  have R1 := h.lst.res.put h.lst.big h.res8 V
  have O := R1.own (r := 0) (by rw [upd_other _ _ (by decide)]; exact h.lst.own)
  have P := (R1.ok 4 (tOne w.heap.size p zs) (by rw [upd_other _ _ (by decide)]; exact h.part)).1
  obtain ⟨a1, c1, e1, r1, l1, m1⟩ := owns_row P
  simp only [Value.slice.injEq, true_and] at e1
  obtain ⟨rfl, rfl⟩ := e1
  exact ⟨V, p, rfl, O.l3, ⟨r1, l1, m1⟩, R1.bel⟩
end
/-- The class's slice is set to none; nothing is parted yet. -/
theorem ptr_start {w w1 : World} {u v : Nat → Sl} {f : Nat → List Int} {k : Nat} (hk : k < 3) (ho : Own3 w1 ((w.alloc (.cells #[.slice (u 0).a (u 0).n (u 0).c, .slice (u 1).a (u 1).n (u 1).c, .slice (u 2).a (u 2).n (u 2).c] 25)).alloc (.cells #[.slice none 0 0, .slice none 0 0, .slice none 0 0] 25)).heap.size v f)
    (hb : Below ((w.alloc (.cells #[.slice (u 0).a (u 0).n (u 0).c, .slice (u 1).a (u 1).n (u 1).c, .slice (u 2).a (u 2).n (u 2).c] 25)).alloc (.cells #[.slice none 0 0, .slice none 0 0, .slice none 0 0] 25)).heap.size ((w.alloc (.cells #[.slice (u 0).a (u 0).n (u 0).c, .slice (u 1).a (u 1).n (u 1).c, .slice (u 2).a (u 2).n (u 2).c] 25)).alloc (.cells #[.slice none 0 0, .slice none 0 0, .slice none 0 0] 25)) w1) :
    ∃ R, PtR w (w1.alloc (.cells #[.slice (upd v k ⟨none, 0, 0⟩ 0).a (upd v k ⟨none, 0, 0⟩ 0).n (upd v k ⟨none, 0, 0⟩ 0).c, .slice (upd v k ⟨none, 0, 0⟩ 1).a (upd v k ⟨none, 0, 0⟩ 1).n (upd v k ⟨none, 0, 0⟩ 1).c, .slice (upd v k ⟨none, 0, 0⟩ 2).a (upd v k ⟨none, 0, 0⟩ 2).n (upd v k ⟨none, 0, 0⟩ 2).c] 25)) R w1.heap.size u (upd v k ⟨none, 0, 0⟩) (upd f k []) ⟨none, 0, 0⟩ [] := by
  have hs : w.heap.size ≤ w1.heap.size := by have := hb.size; simp at this; omega
  have R1 := (Res.none_ w w.heap.size).boxed (Nat.le_refl _) u 3
  have R2 := R1.boxed (by simp) noSl 2
  have R3 := (R2.next (by simp; omega) hb)
  have ho' : Own3 w1 w.heap.size (upd v k ⟨none, 0, 0⟩) (upd f k []) := by
    refine ⟨fun j hj => ?_, fun i j hi hj hij x y hx hy => ?_⟩
    · by_cases e : j = k
      · subst e
        rw [upd_same, upd_same]
        exact World.ownsRow_nil _ _ _ _
      · rw [upd_other _ _ e, upd_other _ _ e]
        exact (ho.less (by simp; omega)).own j hj
    · by_cases e : i = k
      · subst e
        rw [upd_same] at hx
        cases hx
      · by_cases e' : j = k
        · subst e'
          rw [upd_same] at hy
          cases hy
        · rw [upd_other _ _ e] at hx
          rw [upd_other _ _ e'] at hy
          exact ho.apart i j hi hj hij x y hx hy
  have R4 := ((R2.add (by simp; omega) hb 0 (tOwn w.heap.size (upd v k ⟨none, 0, 0⟩) (upd f k [])) ho' (by
    rintro b ⟨j, x, hj, hx, rfl⟩
    by_cases e : j = k
    · subst e
      rw [upd_same] at hx
      cases hx
    · rw [upd_other _ _ e] at hx
      exact ho.block j hj hx)).boxed hs (upd v k ⟨none, 0, 0⟩) 1).add (w' := w1.alloc (.cells #[.slice (upd v k ⟨none, 0, 0⟩ 0).a (upd v k ⟨none, 0, 0⟩ 0).n (upd v k ⟨none, 0, 0⟩ 0).c, .slice (upd v k ⟨none, 0, 0⟩ 1).a (upd v k ⟨none, 0, 0⟩ 1).n (upd v k ⟨none, 0, 0⟩ 1).c, .slice (upd v k ⟨none, 0, 0⟩ 2).a (upd v k ⟨none, 0, 0⟩ 2).n (upd v k ⟨none, 0, 0⟩ 2).c] 25)) (by simp; omega) (Below.refl _ _) 4 (tOne w.heap.size ⟨none, 0, 0⟩ []) (World.ownsRow_nil _ _ _ _) (by rintro b ⟨x, hx, _⟩; cases hx)
  refine ⟨_, ⟨R4, ?_, ?_, by simp; omega⟩, upd_same _ _ _, ?_, ?_⟩
  · rw [upd_other _ _ (by decide), upd_other _ _ (by decide), upd_same]
  · rw [upd_other _ _ (by decide), upd_same]
  · rw [upd_other _ _ (by decide), upd_other _ _ (by decide), upd_other _ _ (by decide), upd_other _ _ (by decide), upd_same]
  · rw [upd_other _ _ (by decide), upd_other _ _ (by decide), upd_other _ _ (by decide), upd_same]
    simp
theorem out_next {low high a : Int} {xs : List Int} {k n : Nat} (hl : xs.length = n) (hk : k < n) (ha : a = xs.getD k 0) (hi : isIn low high a = false) : outOf low high (xs.take (k + 1)) = outOf low high (xs.take k) ++ [a] ∧ inOf low high (xs.take (k + 1)) = inOf low high (xs.take k) := by
  rw [take_next hl hk, ← ha]
  exact ⟨by simp [outOf, hi], by simp [inOf, hi]⟩
theorem in_next {low high a : Int} {xs : List Int} {k n : Nat} (hl : xs.length = n) (hk : k < n) (ha : a = xs.getD k 0) (hi : isIn low high a = true) : inOf low high (xs.take (k + 1)) = inOf low high (xs.take k) ++ [a] ∧ outOf low high (xs.take (k + 1)) = outOf low high (xs.take k) := by
  rw [take_next hl hk, ← ha]
  exact ⟨by simp [inOf, hi], by simp [outOf, hi]⟩
theorem in_len {low high : Int} {xs : List Int} {k : Nat} : (inOf low high (xs.take k)).length ≤ k ∧ (outOf low high (xs.take k)).length ≤ k := by
  have h3 := List.length_filter_le (fun a => !isIn low high a) (xs.take k)
  have h4 := List.length_filter_le (isIn low high) (xs.take k)
  have h5 : (xs.take k).length ≤ k := by simp; omega
  unfold inOf outOf
  omega

set_option maxHeartbeats 1000000 in
theorem rpart_ok0 (B : Nat) (u : Nat → Sl) (f : Nat → List Int) (low high : Int) (w : World) (h : L3 w B u f) (hB : B ≤ w.heap.size) (hn : ∀ j, j < 3 → (u j).n ≤ 2000000) :
    Calls Tryz.prog 117 #[(.agg #[.slice (u 0).a (u 0).n (u 0).c, .slice (u 1).a (u 1).n (u 1).c, .slice (u 2).a (u 2).n (u 2).c]), .int .i64 0, .int .i64 low, .int .i64 high] w (PartOut w (upd f 0 (outOf low high (f 0))) (inOf low high (f 0)) 0) := by
  have HL := Lib.hid h
  have HN := Lib.hid hn
  have hun := hn 0 (by decide)
  have HUL := Lib.hid (h.len 0 (by decide))
  clear h hn
  go_enter Tryz.func117, Tryz.ntmps117
  go_wp2_with fail
  have b0 := two_below w (.cells #[.slice (u 0).a (u 0).n (u 0).c, .slice (u 1).a (u 1).n (u 1).c, .slice (u 2).a (u 2).n (u 2).c] 25) (.cells #[.slice none 0 0, .slice none 0 0, .slice none 0 0] 25)
  refine (rown_any B u f _ (HL.out.over b0 hB) (by simp; omega) HN.out).mono ?_
  rintro e w1 ⟨v, rfl, ho, hb⟩
  obtain ⟨R0, hM⟩ := ptr_start (k := 0) (by decide) ho hb
  have HM := Lib.hid hM
  clear b0 ho hb hM
  go_wp2
  obtain ⟨A, hA0⟩ : ∃ A, (u 0).a = A := ⟨_, rfl⟩
  rw [hA0]
  have HA0 := Lib.hid hA0
  clear hA0
  go_loopw [12, 13, 14] (fun x y _ wr => ∃ (q : Nat) (V : Nat → Sl) (p : Sl) (R : Nat → Option Thing), q ≤ (u 0).n ∧ x = .slice p.a p.n p.c ∧ y = .int .i64 q ∧ Hid (PtR w wr R w1.heap.size u V (upd f 0 (outOf low high ((f 0).take q))) p (inOf low high ((f 0).take q)))) (fun _ y _ _ => (u 0).n - (intOf y).toNat)
  case atStart => exact ⟨0, _, ⟨none, 0, 0⟩, R0, Nat.zero_le _, rfl, rfl, HM⟩
  case round =>
    obtain ⟨q, V, p, R, hq, rfl, rfl, HC⟩ := hrel
    have XU := HC.out.ub
    have c0 := XU.cell 0 (by decide)
    rw [HA0.out] at c0
    have cl := XU.lt
    have XD := HC.out.lst.boxed
    have HFL := Lib.hid HUL.out.symm
    by_cases hlt : q < (u 0).n
    · have hrow := HC.out.lst.arg (HL.out 0 (by decide)).1 hB
      rw [HA0.out] at hrow
      obtain ⟨b, off, rfl, hb, hcell⟩ := hrow.2 (by omega)
      have hq1 := hcell q hlt
      obtain ⟨a, ha⟩ : ∃ a, a = (f 0).getD q 0 := ⟨_, rfl⟩
      rw [← ha] at hq1
      have HAA := Lib.hid ha
      have hbw : b < wr.heap.size := by have := HC.out.lst.big; omega
      have hbig := HC.out.lst.big
      have hlen := in_len (low := low) (high := high) (xs := f 0) (k := q)
      have hpn : p.n + 1 ≤ 4000000 := by have := HC.out.len; omega
      have hVn : (V 0).n + 1 ≤ 4000000 := by
        have := HC.out.lst.len (k := 0) (by decide)
        rw [upd_same] at this
        omega
      have e0 := XD.cell 0 (by decide)
      have ef := XD.free 0
      have el := XD.lt
      clear hcell ha XU XD hlen hrow
      cases hi : isIn low high a
      · have hno : ¬ (low ≤ a ∧ a < high) := by simpa [isIn] using hi
        have HI := Lib.hid hi
        clear hi
        by_cases h1 : a < low
        · have g1 : decide (a < low) = true := by simp; omega
          clear hno h1
          go_wp2_with (at_builtin; refine list_cat rfl (.tmp 51) (.tmp 53) rfl rfl rfl (HC.out.lst.row (k := 0) _ (by decide)) (row_lit1 wr a) (by simp; omega) (by omega) ?_)
          intro p' cp' w2 hc
          obtain ⟨R2, h2⟩ := HC.out.no (k := 0) (by decide) hc
          obtain ⟨M2, _⟩ := HC.out.lst.mid (k := 0) (by decide) hc
          have k0 := M2.cell 0 (by decide)
          have kf := M2.free 0
          have kl := M2.lt
          have H2 := Lib.hid h2
          clear hc h2 M2 e0 ef el c0
          go_wp2
          go_roundw
          case rel =>
            have h2 := H2.out
            obtain ⟨e1, e2⟩ := out_next HFL.out hlt HAA.out HI.out
            rw [upd_same, upd_upd, ← e1, ← e2] at h2
            exact ⟨q + 1, _, p, R2, by omega, rfl, by go_num, Lib.hid h2⟩
          case measure => simp [intOf]; omega
        · have g1 : decide (a < low) = false := by simp; omega
          have g2 : decide (high ≤ a) = true := by simp; omega
          clear hno h1
          go_wp2_with (at_builtin; refine list_cat rfl (.tmp 51) (.tmp 53) rfl rfl rfl (HC.out.lst.row (k := 0) _ (by decide)) (row_lit1 wr a) (by simp; omega) (by omega) ?_)
          intro p' cp' w2 hc
          obtain ⟨R2, h2⟩ := HC.out.no (k := 0) (by decide) hc
          obtain ⟨M2, _⟩ := HC.out.lst.mid (k := 0) (by decide) hc
          have k0 := M2.cell 0 (by decide)
          have kf := M2.free 0
          have kl := M2.lt
          have H2 := Lib.hid h2
          clear hc h2 M2 e0 ef el c0
          go_wp2
          go_roundw
          case rel =>
            have h2 := H2.out
            obtain ⟨e1, e2⟩ := out_next HFL.out hlt HAA.out HI.out
            rw [upd_same, upd_upd, ← e1, ← e2] at h2
            exact ⟨q + 1, _, p, R2, by omega, rfl, by go_num, Lib.hid h2⟩
          case measure => simp [intOf]; omega
      · obtain ⟨h1, h2⟩ : low ≤ a ∧ a < high := by simpa [isIn] using hi
        have g1 : decide (a < low) = false := by simp; omega
        have g2 : decide (high ≤ a) = false := by simp; omega
        have HI := Lib.hid hi
        clear hi h1 h2
        go_wp2_with (at_builtin; refine list_cat rfl (.tmp 56) (.tmp 58) rfl rfl rfl (HC.out.row _) (row_lit1 wr a) (by simp; omega) (by omega) ?_)
        intro p' cp' w2 hc
        obtain ⟨R2, h2⟩ := HC.out.yes hc
        have H2 := Lib.hid h2
        clear hc h2 e0 ef el c0
        go_wp2
        go_roundw
        case rel =>
          have h2 := H2.out
          obtain ⟨e1, e2⟩ := in_next HFL.out hlt HAA.out HI.out
          rw [← e1, ← e2] at h2
          exact ⟨q + 1, V, ⟨p', p.n + 1, cp'⟩, R2, by omega, rfl, by go_num, Lib.hid h2⟩
        case measure => simp [intOf]; omega
    · obtain rfl : q = (u 0).n := by omega
      have hh := HC.out
      rw [List.take_of_length_le (by have := HFL.out; omega)] at hh
      have E := Lib.hid hh.out
      have X8 := HC.out.b8
      have b0 := XD.cell 0 (by decide)
      have b1 := XD.cell 1 (by decide)
      have b2 := XD.cell 2 (by decide)
      have bl := XD.lt
      have x0 := X8.cell 0 (by decide)
      have x1 := X8.cell 1 (by decide)
      have x2 := X8.cell 2 (by decide)
      have y0 := X8.free 0
      have y1 := X8.free 1
      have y2 := X8.free 2
      have xl := X8.lt
      clear hh X8 XD XU
      go_wp2
      refine bodyPost_ret (v := .tuple #[(.agg #[.slice (V 0).a (V 0).n (V 0).c, .slice (V 1).a (V 1).n (V 1).c, .slice (V 2).a (V 2).n (V 2).c]), .slice p.a p.n p.c, .int .i64 0]) ?_ rfl ?_
      rotate_left
      · exact E.out _ rfl
      simp [results, Tryz.results117, go_sem, x0, x1, x2]
set_option maxHeartbeats 1000000 in
theorem rpart_ok1 (B : Nat) (u : Nat → Sl) (f : Nat → List Int) (low high : Int) (w : World) (h : L3 w B u f) (hB : B ≤ w.heap.size) (hn : ∀ j, j < 3 → (u j).n ≤ 2000000) :
    Calls Tryz.prog 117 #[(.agg #[.slice (u 0).a (u 0).n (u 0).c, .slice (u 1).a (u 1).n (u 1).c, .slice (u 2).a (u 2).n (u 2).c]), .int .i64 1, .int .i64 low, .int .i64 high] w (PartOut w (upd f 1 (outOf low high (f 1))) (inOf low high (f 1)) 0) := by
  have HL := Lib.hid h
  have HN := Lib.hid hn
  have hun := hn 1 (by decide)
  have HUL := Lib.hid (h.len 1 (by decide))
  clear h hn
  go_enter Tryz.func117, Tryz.ntmps117
  go_wp2_with fail
  have b0 := two_below w (.cells #[.slice (u 0).a (u 0).n (u 0).c, .slice (u 1).a (u 1).n (u 1).c, .slice (u 2).a (u 2).n (u 2).c] 25) (.cells #[.slice none 0 0, .slice none 0 0, .slice none 0 0] 25)
  refine (rown_any B u f _ (HL.out.over b0 hB) (by simp; omega) HN.out).mono ?_
  rintro e w1 ⟨v, rfl, ho, hb⟩
  obtain ⟨R0, hM⟩ := ptr_start (k := 1) (by decide) ho hb
  have HM := Lib.hid hM
  clear b0 ho hb hM
  go_wp2
  obtain ⟨A, hA0⟩ : ∃ A, (u 1).a = A := ⟨_, rfl⟩
  rw [hA0]
  have HA0 := Lib.hid hA0
  clear hA0
  go_loopw [12, 13, 14] (fun x y _ wr => ∃ (q : Nat) (V : Nat → Sl) (p : Sl) (R : Nat → Option Thing), q ≤ (u 1).n ∧ x = .slice p.a p.n p.c ∧ y = .int .i64 q ∧ Hid (PtR w wr R w1.heap.size u V (upd f 1 (outOf low high ((f 1).take q))) p (inOf low high ((f 1).take q)))) (fun _ y _ _ => (u 1).n - (intOf y).toNat)
  case atStart => exact ⟨0, _, ⟨none, 0, 0⟩, R0, Nat.zero_le _, rfl, rfl, HM⟩
  case round =>
    obtain ⟨q, V, p, R, hq, rfl, rfl, HC⟩ := hrel
    have XU := HC.out.ub
    have c0 := XU.cell 1 (by decide)
    rw [HA0.out] at c0
    have cl := XU.lt
    have XD := HC.out.lst.boxed
    have HFL := Lib.hid HUL.out.symm
    by_cases hlt : q < (u 1).n
    · have hrow := HC.out.lst.arg (HL.out 1 (by decide)).1 hB
      rw [HA0.out] at hrow
      obtain ⟨b, off, rfl, hb, hcell⟩ := hrow.2 (by omega)
      have hq1 := hcell q hlt
      obtain ⟨a, ha⟩ : ∃ a, a = (f 1).getD q 0 := ⟨_, rfl⟩
      rw [← ha] at hq1
      have HAA := Lib.hid ha
      have hbw : b < wr.heap.size := by have := HC.out.lst.big; omega
      have hbig := HC.out.lst.big
      have hlen := in_len (low := low) (high := high) (xs := f 1) (k := q)
      have hpn : p.n + 1 ≤ 4000000 := by have := HC.out.len; omega
      have hVn : (V 1).n + 1 ≤ 4000000 := by
        have := HC.out.lst.len (k := 1) (by decide)
        rw [upd_same] at this
        omega
      have e0 := XD.cell 1 (by decide)
      have ef := XD.free 1
      have el := XD.lt
      clear hcell ha XU XD hlen hrow
      cases hi : isIn low high a
      · have hno : ¬ (low ≤ a ∧ a < high) := by simpa [isIn] using hi
        have HI := Lib.hid hi
        clear hi
        by_cases h1 : a < low
        · have g1 : decide (a < low) = true := by simp; omega
          clear hno h1
          go_wp2_with (at_builtin; refine list_cat rfl (.tmp 51) (.tmp 53) rfl rfl rfl (HC.out.lst.row (k := 1) _ (by decide)) (row_lit1 wr a) (by simp; omega) (by omega) ?_)
          intro p' cp' w2 hc
          obtain ⟨R2, h2⟩ := HC.out.no (k := 1) (by decide) hc
          obtain ⟨M2, _⟩ := HC.out.lst.mid (k := 1) (by decide) hc
          have k0 := M2.cell 1 (by decide)
          have kf := M2.free 1
          have kl := M2.lt
          have H2 := Lib.hid h2
          clear hc h2 M2 e0 ef el c0
          go_wp2
          go_roundw
          case rel =>
            have h2 := H2.out
            obtain ⟨e1, e2⟩ := out_next HFL.out hlt HAA.out HI.out
            rw [upd_same, upd_upd, ← e1, ← e2] at h2
            exact ⟨q + 1, _, p, R2, by omega, rfl, by go_num, Lib.hid h2⟩
          case measure => simp [intOf]; omega
        · have g1 : decide (a < low) = false := by simp; omega
          have g2 : decide (high ≤ a) = true := by simp; omega
          clear hno h1
          go_wp2_with (at_builtin; refine list_cat rfl (.tmp 51) (.tmp 53) rfl rfl rfl (HC.out.lst.row (k := 1) _ (by decide)) (row_lit1 wr a) (by simp; omega) (by omega) ?_)
          intro p' cp' w2 hc
          obtain ⟨R2, h2⟩ := HC.out.no (k := 1) (by decide) hc
          obtain ⟨M2, _⟩ := HC.out.lst.mid (k := 1) (by decide) hc
          have k0 := M2.cell 1 (by decide)
          have kf := M2.free 1
          have kl := M2.lt
          have H2 := Lib.hid h2
          clear hc h2 M2 e0 ef el c0
          go_wp2
          go_roundw
          case rel =>
            have h2 := H2.out
            obtain ⟨e1, e2⟩ := out_next HFL.out hlt HAA.out HI.out
            rw [upd_same, upd_upd, ← e1, ← e2] at h2
            exact ⟨q + 1, _, p, R2, by omega, rfl, by go_num, Lib.hid h2⟩
          case measure => simp [intOf]; omega
      · obtain ⟨h1, h2⟩ : low ≤ a ∧ a < high := by simpa [isIn] using hi
        have g1 : decide (a < low) = false := by simp; omega
        have g2 : decide (high ≤ a) = false := by simp; omega
        have HI := Lib.hid hi
        clear hi h1 h2
        go_wp2_with (at_builtin; refine list_cat rfl (.tmp 56) (.tmp 58) rfl rfl rfl (HC.out.row _) (row_lit1 wr a) (by simp; omega) (by omega) ?_)
        intro p' cp' w2 hc
        obtain ⟨R2, h2⟩ := HC.out.yes hc
        have H2 := Lib.hid h2
        clear hc h2 e0 ef el c0
        go_wp2
        go_roundw
        case rel =>
          have h2 := H2.out
          obtain ⟨e1, e2⟩ := in_next HFL.out hlt HAA.out HI.out
          rw [← e1, ← e2] at h2
          exact ⟨q + 1, V, ⟨p', p.n + 1, cp'⟩, R2, by omega, rfl, by go_num, Lib.hid h2⟩
        case measure => simp [intOf]; omega
    · obtain rfl : q = (u 1).n := by omega
      have hh := HC.out
      rw [List.take_of_length_le (by have := HFL.out; omega)] at hh
      have E := Lib.hid hh.out
      have X8 := HC.out.b8
      have b0 := XD.cell 0 (by decide)
      have b1 := XD.cell 1 (by decide)
      have b2 := XD.cell 2 (by decide)
      have bl := XD.lt
      have x0 := X8.cell 0 (by decide)
      have x1 := X8.cell 1 (by decide)
      have x2 := X8.cell 2 (by decide)
      have y0 := X8.free 0
      have y1 := X8.free 1
      have y2 := X8.free 2
      have xl := X8.lt
      clear hh X8 XD XU
      go_wp2
      refine bodyPost_ret (v := .tuple #[(.agg #[.slice (V 0).a (V 0).n (V 0).c, .slice (V 1).a (V 1).n (V 1).c, .slice (V 2).a (V 2).n (V 2).c]), .slice p.a p.n p.c, .int .i64 0]) ?_ rfl ?_
      rotate_left
      · exact E.out _ rfl
      simp [results, Tryz.results117, go_sem, x0, x1, x2]
set_option maxHeartbeats 1000000 in
theorem rpart_ok2 (B : Nat) (u : Nat → Sl) (f : Nat → List Int) (low high : Int) (w : World) (h : L3 w B u f) (hB : B ≤ w.heap.size) (hn : ∀ j, j < 3 → (u j).n ≤ 2000000) :
    Calls Tryz.prog 117 #[(.agg #[.slice (u 0).a (u 0).n (u 0).c, .slice (u 1).a (u 1).n (u 1).c, .slice (u 2).a (u 2).n (u 2).c]), .int .i64 2, .int .i64 low, .int .i64 high] w (PartOut w (upd f 2 (outOf low high (f 2))) (inOf low high (f 2)) 0) := by
  have HL := Lib.hid h
  have HN := Lib.hid hn
  have hun := hn 2 (by decide)
  have HUL := Lib.hid (h.len 2 (by decide))
  clear h hn
  go_enter Tryz.func117, Tryz.ntmps117
  go_wp2_with fail
  have b0 := two_below w (.cells #[.slice (u 0).a (u 0).n (u 0).c, .slice (u 1).a (u 1).n (u 1).c, .slice (u 2).a (u 2).n (u 2).c] 25) (.cells #[.slice none 0 0, .slice none 0 0, .slice none 0 0] 25)
  refine (rown_any B u f _ (HL.out.over b0 hB) (by simp; omega) HN.out).mono ?_
  rintro e w1 ⟨v, rfl, ho, hb⟩
  obtain ⟨R0, hM⟩ := ptr_start (k := 2) (by decide) ho hb
  have HM := Lib.hid hM
  clear b0 ho hb hM
  go_wp2
  obtain ⟨A, hA0⟩ : ∃ A, (u 2).a = A := ⟨_, rfl⟩
  rw [hA0]
  have HA0 := Lib.hid hA0
  clear hA0
  go_loopw [12, 13, 14] (fun x y _ wr => ∃ (q : Nat) (V : Nat → Sl) (p : Sl) (R : Nat → Option Thing), q ≤ (u 2).n ∧ x = .slice p.a p.n p.c ∧ y = .int .i64 q ∧ Hid (PtR w wr R w1.heap.size u V (upd f 2 (outOf low high ((f 2).take q))) p (inOf low high ((f 2).take q)))) (fun _ y _ _ => (u 2).n - (intOf y).toNat)
  case atStart => exact ⟨0, _, ⟨none, 0, 0⟩, R0, Nat.zero_le _, rfl, rfl, HM⟩
  case round =>
    obtain ⟨q, V, p, R, hq, rfl, rfl, HC⟩ := hrel
    have XU := HC.out.ub
    have c0 := XU.cell 2 (by decide)
    rw [HA0.out] at c0
    have cl := XU.lt
    have XD := HC.out.lst.boxed
    have HFL := Lib.hid HUL.out.symm
    by_cases hlt : q < (u 2).n
    · have hrow := HC.out.lst.arg (HL.out 2 (by decide)).1 hB
      rw [HA0.out] at hrow
      obtain ⟨b, off, rfl, hb, hcell⟩ := hrow.2 (by omega)
      have hq1 := hcell q hlt
      obtain ⟨a, ha⟩ : ∃ a, a = (f 2).getD q 0 := ⟨_, rfl⟩
      rw [← ha] at hq1
      have HAA := Lib.hid ha
      have hbw : b < wr.heap.size := by have := HC.out.lst.big; omega
      have hbig := HC.out.lst.big
      have hlen := in_len (low := low) (high := high) (xs := f 2) (k := q)
      have hpn : p.n + 1 ≤ 4000000 := by have := HC.out.len; omega
      have hVn : (V 2).n + 1 ≤ 4000000 := by
        have := HC.out.lst.len (k := 2) (by decide)
        rw [upd_same] at this
        omega
      have e0 := XD.cell 2 (by decide)
      have ef := XD.free 2
      have el := XD.lt
      clear hcell ha XU XD hlen hrow
      cases hi : isIn low high a
      · have hno : ¬ (low ≤ a ∧ a < high) := by simpa [isIn] using hi
        have HI := Lib.hid hi
        clear hi
        by_cases h1 : a < low
        · have g1 : decide (a < low) = true := by simp; omega
          clear hno h1
          go_wp2_with (at_builtin; refine list_cat rfl (.tmp 51) (.tmp 53) rfl rfl rfl (HC.out.lst.row (k := 2) _ (by decide)) (row_lit1 wr a) (by simp; omega) (by omega) ?_)
          intro p' cp' w2 hc
          obtain ⟨R2, h2⟩ := HC.out.no (k := 2) (by decide) hc
          obtain ⟨M2, _⟩ := HC.out.lst.mid (k := 2) (by decide) hc
          have k0 := M2.cell 2 (by decide)
          have kf := M2.free 2
          have kl := M2.lt
          have H2 := Lib.hid h2
          clear hc h2 M2 e0 ef el c0
          go_wp2
          go_roundw
          case rel =>
            have h2 := H2.out
            obtain ⟨e1, e2⟩ := out_next HFL.out hlt HAA.out HI.out
            rw [upd_same, upd_upd, ← e1, ← e2] at h2
            exact ⟨q + 1, _, p, R2, by omega, rfl, by go_num, Lib.hid h2⟩
          case measure => simp [intOf]; omega
        · have g1 : decide (a < low) = false := by simp; omega
          have g2 : decide (high ≤ a) = true := by simp; omega
          clear hno h1
          go_wp2_with (at_builtin; refine list_cat rfl (.tmp 51) (.tmp 53) rfl rfl rfl (HC.out.lst.row (k := 2) _ (by decide)) (row_lit1 wr a) (by simp; omega) (by omega) ?_)
          intro p' cp' w2 hc
          obtain ⟨R2, h2⟩ := HC.out.no (k := 2) (by decide) hc
          obtain ⟨M2, _⟩ := HC.out.lst.mid (k := 2) (by decide) hc
          have k0 := M2.cell 2 (by decide)
          have kf := M2.free 2
          have kl := M2.lt
          have H2 := Lib.hid h2
          clear hc h2 M2 e0 ef el c0
          go_wp2
          go_roundw
          case rel =>
            have h2 := H2.out
            obtain ⟨e1, e2⟩ := out_next HFL.out hlt HAA.out HI.out
            rw [upd_same, upd_upd, ← e1, ← e2] at h2
            exact ⟨q + 1, _, p, R2, by omega, rfl, by go_num, Lib.hid h2⟩
          case measure => simp [intOf]; omega
      · obtain ⟨h1, h2⟩ : low ≤ a ∧ a < high := by simpa [isIn] using hi
        have g1 : decide (a < low) = false := by simp; omega
        have g2 : decide (high ≤ a) = false := by simp; omega
        have HI := Lib.hid hi
        clear hi h1 h2
        go_wp2_with (at_builtin; refine list_cat rfl (.tmp 56) (.tmp 58) rfl rfl rfl (HC.out.row _) (row_lit1 wr a) (by simp; omega) (by omega) ?_)
        intro p' cp' w2 hc
        obtain ⟨R2, h2⟩ := HC.out.yes hc
        have H2 := Lib.hid h2
        clear hc h2 e0 ef el c0
        go_wp2
        go_roundw
        case rel =>
          have h2 := H2.out
          obtain ⟨e1, e2⟩ := in_next HFL.out hlt HAA.out HI.out
          rw [← e1, ← e2] at h2
          exact ⟨q + 1, V, ⟨p', p.n + 1, cp'⟩, R2, by omega, rfl, by go_num, Lib.hid h2⟩
        case measure => simp [intOf]; omega
    · obtain rfl : q = (u 2).n := by omega
      have hh := HC.out
      rw [List.take_of_length_le (by have := HFL.out; omega)] at hh
      have E := Lib.hid hh.out
      have X8 := HC.out.b8
      have b0 := XD.cell 0 (by decide)
      have b1 := XD.cell 1 (by decide)
      have b2 := XD.cell 2 (by decide)
      have bl := XD.lt
      have x0 := X8.cell 0 (by decide)
      have x1 := X8.cell 1 (by decide)
      have x2 := X8.cell 2 (by decide)
      have y0 := X8.free 0
      have y1 := X8.free 1
      have y2 := X8.free 2
      have xl := X8.lt
      clear hh X8 XD XU
      go_wp2
      refine bodyPost_ret (v := .tuple #[(.agg #[.slice (V 0).a (V 0).n (V 0).c, .slice (V 1).a (V 1).n (V 1).c, .slice (V 2).a (V 2).n (V 2).c]), .slice p.a p.n p.c, .int .i64 0]) ?_ rfl ?_
      rotate_left
      · exact E.out _ rfl
      simp [results, Tryz.results117, go_sem, x0, x1, x2]
theorem rpart_ok (B : Nat) (u : Nat → Sl) (f : Nat → List Int) (k : Nat) (hk : k < 3) (low high : Int) (w : World) (h : L3 w B u f) (hB : B ≤ w.heap.size) (hn : ∀ j, j < 3 → (u j).n ≤ 2000000) :
    Calls Tryz.prog 117 #[(.agg #[.slice (u 0).a (u 0).n (u 0).c, .slice (u 1).a (u 1).n (u 1).c, .slice (u 2).a (u 2).n (u 2).c]), .int .i64 k, .int .i64 low, .int .i64 high] w (PartOut w (upd f k (outOf low high (f k))) (inOf low high (f k)) 0) := by
  rcases (show k = 0 ∨ k = 1 ∨ k = 2 by omega) with rfl | rfl | rfl
  · exact rpart_ok0 B u f low high w h hB hn
  · exact rpart_ok1 B u f low high w h hB hn
  · exact rpart_ok2 B u f low high w h hB hn
end Go.Proofs.YtmalopciboikhaaGreatDoor.Ls
end
section
namespace Go.Proofs.YtmalopciboikhaaGreatDoor.Cl
open Go.Proofs.YtmalopciboikhaaGreatDoor
set_option maxRecDepth 100000
open Go.RowKit

theorem wpList_pcopied {w : World} {ops : Array Oper} {rest : List Oper} {o : Oper} {a : Act} {Q : Exit → Act → World → Prop} (hgd : o.guard = none) (s x : Operand)
    (ho : o.op = .call { callee := .builtin .append, args := #[s, x], argTypes := #[23, 23] }) (hs : a.eval s = .slice none 0 0)
    (B : Nat) (A : Option Addr) (n c : Nat) (f : Nat → Int × Int) (hx : a.eval x = .slice A n c) (hr : PRow w B A n f) (hn : 0 < n) (hbig : n ≤ 1000)
    (h : ∀ g c' w', PMine w' w.heap.size 76 g n c' f → Below w.heap.size w w' → wpList Tryz.prog ops Q rest (a.put o.dst (.slice (some ⟨g, 0, none⟩) n c')) w') : wpList Tryz.prog ops Q (o :: rest) a w := by
  obtain ⟨i0, hi, hz0, hz1, hz2⟩ := info_parts info_page
  obtain ⟨b, off, rfl, _, hc⟩ := hr hn
  refine wpList_append_own (P := Tryz.prog) w hgd s x 23 ho w.heap.size 76 i0 (.agg #[.int .i64 0, .int .i64 0]) 2 16 Tryz.underlying23 hi hz0 hz1 hz2 rfl (by decide) _ 0 [] hs (World.ownsRow_nil _ _ _ _) ⟨b, off, none⟩ n c (pcells f n) hx ?_ ?_ ?_ ?_ ?_ ?_ ?_
  · exact pcells_length f n
  · intro j u hj
    rw [Addr.add_lit]
    exact pcells_of hc j u hj
  · exact pcells_one
  · unfold maxLen; omega
  · omega
  · exact Nat.le_refl _
  · intro v' w1 hown hgrow _
    have hown' : w1.ownsRow w.heap.size 76 2 v' n (pcells f n) := by simpa using hown
    obtain ⟨g, c', rfl, hm⟩ := pmine_of hown' hn
    exact h g c' w1 hm ((Below.refl _ w).grown hgrow (Nat.le_refl _) (by intro k hk; cases hk))

end Go.Proofs.YtmalopciboikhaaGreatDoor.Cl
end
section
namespace Go.Proofs.YtmalopciboikhaaGreatDoor.Cl
open Go.Proofs.YtmalopciboikhaaGreatDoor
set_option maxRecDepth 100000
open Go.RowKit

set_option maxHeartbeats 1000000 in
theorem same_yes (B B' : Nat) (A A' : Option Addr) (n c c' : Nat) (f g : Nat → Int × Int) (w : World) (hn : n ≤ 1000) (he : ∀ i, i < n → g i = f i) (hr : PRow w B A n f) (hr' : PRow w B' A' n g) (hB : B ≤ w.heap.size) (hB' : B' ≤ w.heap.size) :
    Calls Tryz.prog 58 #[.slice A n c, .slice A' n c'] w fun e w' => e = .returned (.bool true) ∧ Below w.heap.size w w' := by
  have HR := Lib.hid hr
  have HR' := Lib.hid (hr'.congr (fun i hi => (he i hi).symm))
  clear hr hr' he
  go_enter Tryz.func58, Tryz.ntmps58
  go_wp2
  go_loopw [5] (fun i wr => ∃ k : Nat, k ≤ n ∧ i = .int .i64 k ∧ Below w.heap.size w wr) (fun i _ => n - (intOf i).toNat)
  case atStart => exact ⟨0, Nat.zero_le _, rfl, Below.refl _ _⟩
  case round =>
    obtain ⟨k, hk, rfl, hb⟩ := hrel
    by_cases hlt : k < n
    · obtain ⟨b, off, rfl, hbB, hc⟩ := (HR.out.over hb hB) (by omega)
      obtain ⟨p0, p1⟩ := hc k hlt
      obtain ⟨b', off', rfl, hbB', hc'⟩ := (HR'.out.over hb hB') (by omega)
      obtain ⟨q0, q1⟩ := hc' k hlt
      have HB := Lib.hid hb
      have hz := hb.size
      have HQ := pneq_no (a := (f k).1) (b := (f k).2) ⟨rfl, rfl⟩
      clear hb hc hc'
      go_wp2
      go_quiet (fail)
      go_wp2
      go_roundw
      case rel => exact ⟨k + 1, by omega, by go_num, below_drewN HB.out _⟩
      case measure => simp [intOf]; omega
    · go_wp2
      go_ret
      exact ⟨rfl, hb⟩
end Go.Proofs.YtmalopciboikhaaGreatDoor.Cl
end
section
namespace Go.Proofs.YtmalopciboikhaaGreatDoor.Cl
open Go.Proofs.YtmalopciboikhaaGreatDoor
set_option maxRecDepth 100000
open Go.RowKit

theorem drop_two {f : Nat → Int × Int} {a m : Nat} (h : wide f a = m) (hm : 1 ≤ m) (i : Nat) : drop f a i = put (fillF f (a + 1) (m - 1) (0, 0)) a (0, 0) i := by
  unfold drop put fillF
  rw [h]
  by_cases h0 : i = a
  · rw [if_pos h0, if_pos (by omega)]
  · rw [if_neg h0]
    by_cases h2 : a ≤ i ∧ (i : Int) < a + m
    · rw [if_pos h2, if_pos (by omega)]
    · rw [if_neg h2, if_neg (by omega)]

set_option maxHeartbeats 1000000 in
theorem rdrop_core (B : Nat) (A : Option Addr) (n c : Nat) (f : Nat → Int × Int) (a : Nat) (w : World) (hM : mayB f n = true) (ha : a < n) (hk : (f a).1 = 1 ∨ (f a).1 = 2) (hr : PRow w B A n f) (hB : B ≤ w.heap.size) :
    Calls Tryz.prog 67 #[.slice A n c, .int .i64 a] w (TOut w (dropE f n a) n (dropF f a)) := by
  have HE := Lib.hid (dropE_ok hM ha hk)
  obtain ⟨w1', w4', hfit, -, -⟩ := wide_facts hM ha hk
  obtain ⟨m, hm⟩ : ∃ m : Nat, wide f a = m := ⟨(wide f a).toNat, by omega⟩
  have HW := Lib.hid hm
  rw [hm] at w1' w4' hfit
  have ham : a + m ≤ n := by omega
  have hm1 : 1 ≤ m := by omega
  obtain ⟨n1, n64, -, -⟩ := (mayB_iff f n).1 hM
  have hn : n ≤ 1000 := by omega
  have HM := Lib.hid hM
  have HR := Lib.hid hr
  obtain ⟨b, off, rfl, hbB, -⟩ := hr (by omega)
  clear hM hr w1' w4' hfit
  have dn : decide ((n : Int) ≤ a) = false := by simp; omega
  rcases hk with hk | hk
  · have em : m = 1 := by
      have := HW.out
      unfold wide at this
      rw [hk] at this
      simp at this
      omega
    subst em
    have e1 : ((f a).1 != 1) = false := by rw [hk]; decide
    have e2 : ((f a).1 == 2) = false := by rw [hk]; decide
    clear hk hm
    go_enter Tryz.func67, Tryz.ntmps67
    go_wp2_with fail
    refine (rmay_yes B _ _ _ _ _ HM.out HR.out hB).mono ?_
    rintro e w1 ⟨rfl, hb1⟩
    have HR1 := Lib.hid (HR.out.over hb1 hB)
    obtain ⟨_, _, ea, hb', hc'⟩ := HR1.out (by omega)
    simp at ea
    obtain ⟨rfl, rfl⟩ := ea
    obtain ⟨p0, p1⟩ := hc' a ha
    have hz1 := hb1.size
    have HB1 := Lib.hid hb1
    clear hb1 hc'
    go_wp2_with (at_builtin; refine wpList_pcopied rfl _ _ rfl rfl B _ n c f rfl HR1.out ?n0 ?n1 ?_)
    case n0 => omega
    case n1 => omega
    intro g c' w2 hm hb2
    have q0 := (hb2.cell (p := ⟨b, off + a * 2, none⟩) (by simp; omega)).trans p0
    have q1 := (hb2.cell (p := ⟨b, off + a * 2 + 1, none⟩) (by simp; omega)).trans p1
    have f0 := hm.free (a * 2)
    have f1 := hm.free (a * 2 + 1)
    obtain ⟨k0, k1⟩ := hm.cells a ha
    have hg := hm.2.1
    have hgr := hm.2.2.1
    have hcc := hm.2.2.2.1
    have HM2 := Lib.hid (hm.stored a (0, 0))
    have HB2 := Lib.hid (HB1.out.trans (hb2.mono hz1))
    clear hm hb2
    go_wp2
    go_ret2
    refine tout_ok rfl HE.out (HM2.out.lower hz1) (fun i _ => ?_) ((HB2.out.setCell (by simpa using (show w.heap.size ≤ g by omega)) _).setCell (by simpa using (show w.heap.size ≤ g by omega)) _)
    have := drop_two HW.out (Nat.le_refl _) i
    rwa [Nat.sub_self, fillF_zero] at this
  · have em : (f a).2 = m := by
      have := HW.out
      unfold wide at this
      rw [if_pos hk] at this
      exact this
    have e1 : ((f a).1 != 1) = true := by rw [hk]; decide
    have e2' : ((f a).1 != 2) = false := by rw [hk]; decide
    have e2 : ((f a).1 == 2) = true := by rw [hk]; decide
    have EM := Lib.hid em
    clear hk hm em
    go_enter Tryz.func67, Tryz.ntmps67
    go_wp2_with fail
    refine (rmay_yes B _ _ _ _ _ HM.out HR.out hB).mono ?_
    rintro e w1 ⟨rfl, hb1⟩
    have HR1 := Lib.hid (HR.out.over hb1 hB)
    obtain ⟨_, _, ea, hb', hc'⟩ := HR1.out (by omega)
    simp at ea
    obtain ⟨rfl, rfl⟩ := ea
    obtain ⟨p0, p1⟩ := hc' a ha
    rw [EM.out] at p1
    have hz1 := hb1.size
    have HB1 := Lib.hid hb1
    clear hb1 hc'
    go_wp2_with (at_builtin; refine wpList_pcopied rfl _ _ rfl rfl B _ n c f rfl HR1.out ?n0 ?n1 ?_)
    case n0 => omega
    case n1 => omega
    intro g c' w2 hm hb2
    have q0 := (hb2.cell (p := ⟨b, off + a * 2, none⟩) (by simp; omega)).trans p0
    have q1 := (hb2.cell (p := ⟨b, off + a * 2 + 1, none⟩) (by simp; omega)).trans p1
    have hg := hm.2.1
    have hcc := hm.2.2.2.1
    have HM2 := Lib.hid hm
    have HB2 := Lib.hid hb2
    have hz2 := hb2.size
    clear hm hb2
    go_wp2
    go_loopw [8] (fun i wr => ∃ k : Nat, 1 ≤ k ∧ k ≤ m ∧ i = .int .i64 k ∧ PMine wr w1.heap.size 76 g n c' (fillF f (a + 1) (k - 1) (0, 0)) ∧ Below w1.heap.size w1 wr) (fun i _ => m - (intOf i).toNat)
    case atStart => exact ⟨1, by omega, by omega, rfl, by rw [Nat.sub_self, fillF_zero]; exact HM2.out, HB2.out⟩
    case round =>
      obtain ⟨k, hk1, hk2, rfl, hm, hb⟩ := hrel
      have HB := Lib.hid hb
      have HK := Lib.hid hm
      have r1 := (hb.cell (p := ⟨b, off + a * 2 + 1, none⟩) (by simp; omega)).trans p1
      by_cases hlt : k < m
      · have f0 := hm.free ((a + k) * 2)
        have f1 := hm.free ((a + k) * 2 + 1)
        have hgr := hm.2.2.1
        obtain ⟨d0', d1'⟩ := hm.cells (a + k) (by omega)
        clear hm hb
        go_wp2
        go_roundw
        case rel =>
          refine ⟨k + 1, by omega, by omega, by go_num, ?_, ?_⟩
          · have := HK.out.stored (a + k) (0, 0)
            rw [show a + k = a + 1 + (k - 1) by omega, fillF_succ, show a + 1 + (k - 1) = a + k by omega, show k - 1 + 1 = k + 1 - 1 by omega] at this
            exact this
          · exact (HB.out.setCell (by simpa using hg) _).setCell (by simpa using hg) _
        case measure => simp [intOf]; omega
      · obtain rfl : k = m := by omega
        have f0 := hm.free (a * 2)
        have f1 := hm.free (a * 2 + 1)
        have hgr := hm.2.2.1
        obtain ⟨d0', d1'⟩ := hm.cells a (by omega)
        clear hm hb
        go_wp2
        go_ret2
        exact tout_ok rfl HE.out ((HK.out.stored a (0, 0)).lower hz1) (fun i _ => drop_two HW.out hm1 i)
          ((HB1.out.trans (HB.out.mono hz1)).setCell (by simpa using (show w.heap.size ≤ g by omega)) _ |>.setCell (by simpa using (show w.heap.size ≤ g by omega)) _)

theorem rdrop_any (B : Nat) (A : Option Addr) (n c : Nat) (f : Nat → Int × Int) (at_ : Int) (w : World) (hn : n ≤ 1000) (hr : PRow w B A n f) (hB : B ≤ w.heap.size) :
    Calls Tryz.prog 67 #[.slice A n c, .int .i64 at_] w (TOut w (dropE f n at_) n (dropF f at_)) := by
  cases hM : mayB f n
  · have HE := Lib.hid (dropE_may (at_ := at_) hM)
    have HM := Lib.hid hM
    have HR := Lib.hid hr
    clear hM hr
    go_enter Tryz.func67, Tryz.ntmps67
    go_wp2_with fail
    refine (rmay_no B _ _ _ _ _ HM.out hn HR.out hB).mono ?_
    rintro e w1 ⟨rfl, hb1⟩
    go_wp2
    go_ret2
    exact tout_err rfl HE.out (by decide) hb1
  by_cases hat : at_ < 0 ∨ (n : Int) ≤ at_
  · have HE := Lib.hid (dropE_none hM hat)
    have HM := Lib.hid hM
    have HR := Lib.hid hr
    clear hM hr
    by_cases h0 : at_ < 0
    · have d0 : decide (at_ < 0) = true := by simpa using h0
      clear hat
      go_enter Tryz.func67, Tryz.ntmps67
      go_wp2_with fail
      refine (rmay_yes B _ _ _ _ _ HM.out HR.out hB).mono ?_
      rintro e w1 ⟨rfl, hb1⟩
      go_wp2
      go_ret2
      exact tout_err rfl HE.out (by decide) hb1
    · have d0 : decide (at_ < 0) = false := by simpa using h0
      have h1 : (n : Int) ≤ at_ := by omega
      have d1 : decide ((n : Int) ≤ at_) = true := by simpa using h1
      clear hat
      go_enter Tryz.func67, Tryz.ntmps67
      go_wp2_with fail
      refine (rmay_yes B _ _ _ _ _ HM.out HR.out hB).mono ?_
      rintro e w1 ⟨rfl, hb1⟩
      go_wp2
      go_ret2
      exact tout_err rfl HE.out (by decide) hb1
  obtain ⟨a, rfl⟩ : ∃ a : Nat, at_ = a := ⟨at_.toNat, by omega⟩
  have ha : a < n := by omega
  rcases (show ((f a).1 = 0 ∨ (f a).1 = 3) ∨ ((f a).1 = 1 ∨ (f a).1 = 2) by have := kinds hM ha; omega) with hk | hk
  · have HE := Lib.hid (dropE_kind hM ha hk)
    have HM := Lib.hid hM
    have HR := Lib.hid hr
    obtain ⟨b, off, rfl, hbB, -⟩ := hr (by omega)
    have e1 : ((f a).1 != 1) = true := by rcases hk with hk | hk <;> rw [hk] <;> decide
    have e2 : ((f a).1 != 2) = true := by rcases hk with hk | hk <;> rw [hk] <;> decide
    have dn : decide ((n : Int) ≤ a) = false := by simp; omega
    clear hM hr hat hk
    go_enter Tryz.func67, Tryz.ntmps67
    go_wp2_with fail
    refine (rmay_yes B _ _ _ _ _ HM.out HR.out hB).mono ?_
    rintro e w1 ⟨rfl, hb1⟩
    obtain ⟨_, _, ea, hb', hc'⟩ := (HR.out.over hb1 hB) (by omega)
    simp at ea
    obtain ⟨rfl, rfl⟩ := ea
    obtain ⟨p0, p1⟩ := hc' a ha
    have HB1 := Lib.hid hb1
    clear hb1 hc'
    go_wp2
    go_ret2
    exact tout_err rfl HE.out (by decide) HB1.out
  · exact rdrop_core B A n c f a w hM ha hk hr hB
end Go.Proofs.YtmalopciboikhaaGreatDoor.Cl
end
