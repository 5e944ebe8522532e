/-
  Merged texts: HpFree, HpGlue, ClRefAll.
-/
import Derived.Test.YtccjelpfmkbmiaaGreatDoorHpXB
import Derived.Test.YtccjelpfmkbmiaaGreatDoorHpXC
section
namespace Go.Proofs.YtccjelpfmkbmiaaGreatDoor
open Go.RowKit
set_option maxRecDepth 100000

theorem peq_yes {a b a' b' : Int} (h : a = a' ∧ b = b') (w : World) :
    (binOp .eql 81 (.agg #[.int .i64 a, .int .i64 b]) (.agg #[.int .i64 a', .int .i64 b'])).run Tryz.prog w = .ok (.bool true) w := by
  obtain ⟨rfl, rfl⟩ := h
  go_simp
theorem peq_no {a b a' b' : Int} (h : ¬ (a = a' ∧ b = b')) (w : World) :
    (binOp .eql 81 (.agg #[.int .i64 a, .int .i64 b]) (.agg #[.int .i64 a', .int .i64 b'])).run Tryz.prog w = .ok (.bool false) w := by
  by_cases h0 : a = a'
  · by_cases h1 : b = b'
    · exact absurd ⟨h0, h1⟩ h
    · clear h; go_simp
  · clear h; go_simp
theorem below_drawn' {B : Nat} {a w : World} (h : Below B a w) (n : Nat) : Below B a (w.drewN n) := ⟨h.os, h.tape, h.output, h.size, h.block⟩
/-- Is the cell at a of the class c, and not used? -/
def freeH (d : Hd_) (n : Nat) (a c : Int) : Bool :=
  if Cl.bg d.f n a = 0 then false else decide ((d.f (a / 16 - 1).toNat).1 = 1 ∧ (d.f (a / 16 - 1).toNat).2 = c) && (d.ws.getD (a - 16).toNat 0 == 0)
theorem rfree_no (s : Hs) (d : Hd_) (w : World) (a c : Int) (hp : Hp w w.heap.size s d) (hpn : s.p.n ≤ 1000) (hbg : Cl.bg d.f s.p.n a = 0) :
    Calls Tryz.prog 122 #[(.agg #[.slice s.w.a s.w.n s.w.c, .slice s.p.a s.p.n s.p.c, .slice (s.u 0).a (s.u 0).n (s.u 0).c, .slice (s.u 1).a (s.u 1).n (s.u 1).c, .slice (s.u 2).a (s.u 2).n (s.u 2).c, .slice s.c.a s.c.n s.c.c]), .int .i64 a, .int .i64 c] w fun e w' => e = .returned (.bool false) ∧ Below w.heap.size w w' := by
  have HP := Lib.hid hp
  have HBG := Lib.hid hbg
  clear hp hbg
  go_enter Tryz.func122, Tryz.ntmps122
  go_wp2_with fail
  have hb0 := (Below.refl w.heap.size w).alloc (Nat.le_refl _) (.cells #[.slice s.w.a s.w.n s.w.c, .slice s.p.a s.p.n s.p.c, .slice (s.u 0).a (s.u 0).n (s.u 0).c, .slice (s.u 1).a (s.u 1).n (s.u 1).c, .slice (s.u 2).a (s.u 2).n (s.u 2).c, .slice s.c.a s.c.n s.c.c] 28)
  refine (Cl.rbegins_any w.heap.size s.p.a s.p.n s.p.c d.f a _ hpn (HP.out.pages.below hb0) (by simp)).mono ?_
  rw [HBG.out]
  rintro r w1 ⟨rfl, hb1⟩
  have BW := Lib.hid (hb0.trans (hb1.mono (by simp)))
  clear hb1 hb0
  go_wp2
  go_ret
  exact ⟨rfl, BW.out⟩
theorem rfree_in (s : Hs) (d : Hd_) (w : World) (a c : Int) (i j : Nat) (x : Int) (p : Int × Int) (hp : Hp w w.heap.size s d) (hi : i < s.w.n) (hj : j < s.p.n) (hwn : s.w.n ≤ 4000) (hpn : s.p.n ≤ 1000) (ha : a - 16 = i) (hb : a / 16 - 1 = j) (hx : x = d.ws.getD i 0) (hpp : p = d.f j)
    (hbg : ¬ Cl.bg d.f s.p.n a = 0) (V : Bool) (hV : V = (decide (p.1 = 1 ∧ p.2 = c) && (x == 0))) :
    Calls Tryz.prog 122 #[(.agg #[.slice s.w.a s.w.n s.w.c, .slice s.p.a s.p.n s.p.c, .slice (s.u 0).a (s.u 0).n (s.u 0).c, .slice (s.u 1).a (s.u 1).n (s.u 1).c, .slice (s.u 2).a (s.u 2).n (s.u 2).c, .slice s.c.a s.c.n s.c.c]), .int .i64 a, .int .i64 c] w fun e w' => e = .returned (.bool V) ∧ Below w.heap.size w w' := by
  rcases s with ⟨⟨aw, nw, cw⟩, ⟨ap, np, cp⟩, su, ⟨ac, nc, cc⟩⟩
  dsimp only at hi hj hwn hpn hbg ⊢
  obtain ⟨bw, ow, rfl, hbw, hcw⟩ := hp.words.2 (show 0 < nw by omega)
  obtain ⟨bp, op, rfl, hbp, hcp⟩ := hp.pages (show 0 < np by omega)
  have hw0 := hcw i hi
  obtain ⟨hp0, hp1⟩ := hcp j hj
  rw [← hx] at hw0
  rw [← hpp] at hp0 hp1
  have HP := Lib.hid hp.pages
  have HV := Lib.hid hV
  have hbz : (Cl.bg d.f np a == 0) = false := by simp [hbg]
  have HA := Lib.hid ha
  have HJ := Lib.hid hb
  have i0 : (0 : Int) ≤ i := by omega
  have i1 : (i : Int) < nw := by omega
  have j0 : (0 : Int) ≤ j := by omega
  have j1 : (j : Int) < np := by omega
  clear hcw hcp hx hpp hV hp hbg ha hb
  go_enter Tryz.func122, Tryz.ntmps122
  go_wp2_with fail
  have hb0 := (Below.refl w.heap.size w).alloc (Nat.le_refl _) (.cells #[.slice (some ⟨bw, ow, none⟩) nw cw, .slice (some ⟨bp, op, none⟩) np cp, .slice (su 0).a (su 0).n (su 0).c, .slice (su 1).a (su 1).n (su 1).c, .slice (su 2).a (su 2).n (su 2).c, .slice ac nc cc] 28)
  refine (Cl.rbegins_any w.heap.size (some ⟨bp, op, none⟩) np cp d.f a _ hpn (HP.out.below hb0) (by simp)).mono ?_
  rintro r w1 ⟨rfl, hb1⟩
  have HB1 := Lib.hid ((HBox.new w ⟨⟨some ⟨bw, ow, none⟩, nw, cw⟩, ⟨some ⟨bp, op, none⟩, np, cp⟩, su, ⟨ac, nc, cc⟩⟩ 28).next hb1)
  have BW := Lib.hid (hb0.trans (hb1.mono (by simp)))
  clear hb1 hb0
  go_wp2
  have b2 := (Below.refl w1.heap.size w1).alloc (Nat.le_refl _) (.cells #[.int .i64 1, .int .i64 c] 81)
  have s0 : (w1.alloc (.cells #[.int .i64 1, .int .i64 c] 81)).cell? ⟨w1.heap.size, 0, none⟩ = some (.int .i64 1) := by simp [go_sem]
  have s1 : (w1.alloc (.cells #[.int .i64 1, .int .i64 c] 81)).cell? ⟨w1.heap.size, 1, none⟩ = some (.int .i64 c) := by simp [go_sem]
  have sl : w1.heap.size < (w1.alloc (.cells #[.int .i64 1, .int .i64 c] 81)).heap.size := by simp
  generalize w1.alloc (.cells #[.int .i64 1, .int .i64 c] 81) = W at b2 s0 s1 sl ⊢
  have BX := HB1.out.next b2
  have BQ := BW.out.trans (b2.mono BW.out.size)
  have hw2 := (BQ.cell (p := ⟨bw, ow + i, none⟩) hbw).trans hw0
  have hp2 := (BQ.cell (p := ⟨bp, op + j * 2, none⟩) hbp).trans hp0
  have hp3 := (BQ.cell (p := ⟨bp, op + j * 2 + 1, none⟩) hbp).trans hp1
  have q0 := BX.c0
  have q1 := BX.c1
  have ql := BX.lt
  dsimp only at q0 q1
  have l1 : bw < W.heap.size := Nat.lt_of_lt_of_le hbw BQ.size
  have l2 : bp < W.heap.size := Nat.lt_of_lt_of_le hbp BQ.size
  have ha := HA.out
  have hj16 := HJ.out
  have wi : IntKind.i64.wrap (i : Int) = i := by simp [IntKind.wrap, IntKind.signed, IntKind.bits]; omega
  have wj : IntKind.i64.wrap (j : Int) = j := by simp [IntKind.wrap, IntKind.signed, IntKind.bits]; omega
  have HBQ := Lib.hid BQ
  clear BX BQ b2 BW HB1 hw0 hp0 hp1 HA HJ hbw hbp hbz HP
  by_cases hE : p.1 = 1 ∧ p.2 = c
  · have heq := fun w => peq_yes hE w
    have V0 : V = (x == 0) := by rw [HV.out, decide_eq_true hE]; simp
    subst V0
    clear hE HV
    go_quiet (fail)
    go_wp2
    go_ret
    exact ⟨rfl, below_drawn' HBQ.out _⟩
  · have heq := fun w => peq_no hE w
    have V0 : V = false := by rw [HV.out, decide_eq_false hE]; simp
    subst V0
    clear hE HV
    go_quiet (fail)
    go_wp2
    go_ret
    exact ⟨rfl, below_drawn' HBQ.out _⟩
theorem rfree_any (s : Hs) (d : Hd_) (w : World) (a c : Int) (hp : Hp w w.heap.size s d) (hwn : s.w.n = 16 * s.p.n) (hpn : s.p.n ≤ 200) :
    Calls Tryz.prog 122 #[(.agg #[.slice s.w.a s.w.n s.w.c, .slice s.p.a s.p.n s.p.c, .slice (s.u 0).a (s.u 0).n (s.u 0).c, .slice (s.u 1).a (s.u 1).n (s.u 1).c, .slice (s.u 2).a (s.u 2).n (s.u 2).c, .slice s.c.a s.c.n s.c.c]), .int .i64 a, .int .i64 c] w fun e w' => e = .returned (.bool (freeH d s.p.n a c)) ∧ Below w.heap.size w w' := by
  by_cases hbg : Cl.bg d.f s.p.n a = 0
  · rw [show freeH d s.p.n a c = false from if_pos hbg]
    exact rfree_no s d w a c hp (by omega) hbg
  · have hin : Cl.mayB d.f s.p.n = true ∧ 16 ≤ a ∧ a < 16 + 16 * (s.p.n : Int) := Classical.byContradiction fun h => hbg (Cl.bg_no h)
    have h0 := hin.2.1
    have h1 := hin.2.2
    refine rfree_in s d w a c (a - 16).toNat (a / 16 - 1).toNat _ _ hp (by omega) (by omega) (by omega) (by omega) (by omega) (by omega) rfl rfl hbg _ ?_
    rw [freeH, if_neg hbg]
end Go.Proofs.YtccjelpfmkbmiaaGreatDoor
end
section
namespace Go.Proofs.YtccjelpfmkbmiaaGreatDoor
open Go.RowKit
set_option maxRecDepth 100000

theorem info_l3 : (Tryz.prog.info? 25).map (fun i => (i.zero, i.size, i.bytes)) = some (some (.agg #[.slice none 0 0, .slice none 0 0, .slice none 0 0]), 3, 72) := by kernel_rfl
def lcell (u : Nat → Nat → Ls.Sl) (j : Nat) : Value := .slice (u (j / 3) (j % 3)).a (u (j / 3) (j % 3)).n (u (j / 3) (j % 3)).c
def lcells (u : Nat → Nat → Ls.Sl) (n : Nat) : List Value := (List.range (n * 3)).map (lcell u)
theorem lcells_length (u : Nat → Nat → Ls.Sl) (n : Nat) : (lcells u n).length = n * 3 := by simp [lcells]
theorem lcells_at (u : Nat → Nat → Ls.Sl) (n i r : Nat) (hi : i < n) (hr : r < 3) : (lcells u n)[i * 3 + r]? = some (.slice (u i r).a (u i r).n (u i r).c) := by
  have h : i * 3 + r < n * 3 := by omega
  rw [lcells, List.getElem?_map, List.getElem?_range h]
  simp only [Option.map_some, lcell]
  rw [show (i * 3 + r) / 3 = i by omega, show (i * 3 + r) % 3 = r by omega]
/-- One ahead of many. -/
def ahead {α : Type} (u : α) (U : Nat → α) : Nat → α := fun | 0 => u | k + 1 => U k
theorem lcells_ahead (u : Nat → Ls.Sl) (U : Nat → Nat → Ls.Sl) (m : Nat) : lcells (ahead u U) (1 + m) = lcells (fun _ => u) 1 ++ lcells U m := by
  apply List.ext_getElem?
  intro j
  by_cases hj : j < 3
  · rw [List.getElem?_append_left (by rw [lcells_length]; omega)]
    have h1 := lcells_at (ahead u U) (1 + m) 0 j (by omega) hj
    have h2 := lcells_at (fun _ => u) 1 0 j (by omega) hj
    simp only [Nat.zero_mul, Nat.zero_add] at h1 h2
    rw [h1, h2]
    rfl
  · rw [List.getElem?_append_right (by rw [lcells_length]; omega), lcells_length]
    by_cases hm : j < (1 + m) * 3
    · have h1 := lcells_at (ahead u U) (1 + m) (j / 3) (j % 3) (by omega) (by omega)
      have h2 := lcells_at U m (j / 3 - 1) (j % 3) (by omega) (by omega)
      rw [show j / 3 * 3 + j % 3 = j by omega] at h1
      rw [show (j / 3 - 1) * 3 + j % 3 = j - 1 * 3 by omega] at h2
      rw [h1, h2]
      have e : ahead u U (j / 3) = U (j / 3 - 1) := by
        obtain ⟨q, hq⟩ : ∃ q, j / 3 = q + 1 := ⟨j / 3 - 1, by omega⟩
        rw [hq]
        rfl
      rw [e]
    · rw [List.getElem?_eq_none (by rw [lcells_length]; omega), List.getElem?_eq_none (by rw [lcells_length]; omega)]
/-- A slice of lists that a walk made. -/
theorem lrow_of {w : World} {base n : Nat} {g c : Nat} {u : Nat → Nat → Ls.Sl} {f : Nat → Nat → List Int} {B : Nat} (h : w.ownsRow base 25 3 (.slice (some ⟨g, 0, none⟩) n c) n (lcells u n)) (hg : g < B) (hl : ∀ i, i < n → Ls.L3 w B (u i) (f i)) : Ls.LRow w B (some ⟨g, 0, none⟩) n u f := fun _ =>
  ⟨g, 0, rfl, hg, fun i hi => ⟨fun r hr => by
    have := (h.cellAt (i * 3 + r) (by omega)).trans (lcells_at u n i r hi hr)
    simpa using this, hl i hi⟩⟩
theorem own_one (W : World) (u : Nat → Ls.Sl) : (W.alloc (.cells #[.slice (u 0).a (u 0).n (u 0).c, .slice (u 1).a (u 1).n (u 1).c, .slice (u 2).a (u 2).n (u 2).c] 25)).ownsRow W.heap.size 25 3 (.slice (some ⟨W.heap.size, 0, none⟩) 1 1) 1 (lcells (fun _ => u) 1) := by
  refine ⟨by rw [lcells_length], .inr ⟨W.heap.size, 1, #[.slice (u 0).a (u 0).n (u 0).c, .slice (u 1).a (u 1).n (u 1).c, .slice (u 2).a (u 2).n (u 2).c], rfl, Nat.le_refl _, World.alloc_heap_new _ _, Nat.le_refl _, by unfold maxLen; omega, rfl, rfl⟩⟩
theorem run_glue (W : World) (B m c : Nat) (A : Option Addr) (u : Nat → Ls.Sl) (f : Nat → List Int) (U : Nat → Nat → Ls.Sl) (F : Nat → Nat → List Int) (ty : TypeId) (h1 : Ls.L3 W B u f) (hB : B ≤ W.heap.size) (hr : Ls.LRow W B A m U F) (hm : m ≤ 1000) :
    ∃ A' cap w', (Builtin.append_ #[82, 82] ty #[.slice (some ⟨W.heap.size, 0, none⟩) 1 1, .slice A m c]).run Tryz.prog (W.alloc (.cells #[.slice (u 0).a (u 0).n (u 0).c, .slice (u 1).a (u 1).n (u 1).c, .slice (u 2).a (u 2).n (u 2).c] 25)) = .ok (.slice A' (1 + m) cap) w' ∧
      Ls.LRow w' w'.heap.size A' (1 + m) (ahead u U) (ahead f F) ∧ Below W.heap.size W w' := by
  obtain ⟨i0, hi, hz0, hz1, hz2⟩ := info_parts info_l3
  have b0 := (Below.refl W.heap.size W).alloc (Nat.le_refl _) (.cells #[.slice (u 0).a (u 0).n (u 0).c, .slice (u 1).a (u 1).n (u 1).c, .slice (u 2).a (u 2).n (u 2).c] 25)
  have own := own_one W u
  have hlist : ∀ (w' : World), Below W.heap.size W w' → ∀ i, i < 1 + m → Ls.L3 w' w'.heap.size (ahead u U i) (ahead f F i) := by
    intro w' hb i hi1
    have hs := hb.size
    match i, hi1 with
    | 0, _ => exact (h1.below (hb.mono hB)).more (by omega)
    | k + 1, hk =>
      obtain ⟨_, _, _, _, hc⟩ := hr (by omega)
      exact ((hc k (by omega)).2.below (hb.mono hB)).more (by omega)
  by_cases hn : m = 0
  · subst hn
    have hsrc : Src Tryz.prog i0.size 82 (.slice A 0 c) 0 [] (W.alloc (.cells #[.slice (u 0).a (u 0).n (u 0).c, .slice (u 1).a (u 1).n (u 1).c, .slice (u 2).a (u 2).n (u 2).c] 25)) := by
      rw [hz1]
      cases A with
      | none => exact Src.ofNil _ Tryz.underlying82 c
      | some a => exact Src.ofSlice _ Tryz.underlying82 a 0 c [] rfl (by simp) (by simp)
    refine ⟨_, 1, _, run_append_nothing _ 82 82 ty 25 i0 Tryz.underlying82 hi (some ⟨W.heap.size, 0, none⟩) 1 1 (Nat.le_refl _) _ hsrc, ?_, b0⟩
    have h0 := lcells_ahead u U 0
    rw [show lcells U 0 = [] from rfl, List.append_nil] at h0
    rw [← h0] at own
    exact lrow_of own (by simp) (hlist _ b0)
  · obtain ⟨b, off, rfl, hb, hc⟩ := hr (by omega)
    obtain ⟨g, cap, w', hrun, r1, r2, r3, r4⟩ := run_append_lies (P := Tryz.prog) (W.alloc (.cells #[.slice (u 0).a (u 0).n (u 0).c, .slice (u 1).a (u 1).n (u 1).c, .slice (u 2).a (u 2).n (u 2).c] 25)) 82 ty W.heap.size 25 i0 _ 3 72 Tryz.underlying82 hi hz0 hz1 hz2 rfl (by decide) _ _ _ own ⟨b, off, none⟩ m c (lcells U m) (lcells_length U m) (by
      intro j v hj
      have hjn : j < m * 3 := by
        have := (List.getElem?_eq_some_iff.1 hj).1
        rwa [lcells_length] at this
      have e := lcells_at U m (j / 3) (j % 3) (by omega) (by omega)
      rw [show j / 3 * 3 + j % 3 = j by omega, hj] at e
      have hcell := (b0.cell (p := ⟨b, off + j / 3 * 3 + j % 3, none⟩) (by show b < _; omega)).trans ((hc (j / 3) (by omega)).1 (j % 3) (by omega))
      rw [Addr.add_lit, show off + j = off + j / 3 * 3 + j % 3 by omega, hcell, e]) (by
      intro v hv
      obtain ⟨x, _, rfl⟩ := List.mem_map.1 hv
      rfl) (by omega) (by unfold maxLen; omega) (by omega) (by simp) _ rfl
    rw [← lcells_ahead] at r1
    have hb' : Below W.heap.size W w' := b0.grown r2 (by simp) (fun k hk => by
      have : W.heap.size = k := by simpa [Value.ownBlock] using hk
      omega)
    exact ⟨_, cap, w', hrun, lrow_of r1 r4 (hlist _ hb'), hb'⟩
/-- .. as a step of a plain walk. -/
theorem list_glue {W : World} {ops : Array Oper} {rest : List Oper} {o : Oper} {a : Act} {Q : Exit → Act → World → Prop} (hgd : o.guard = none) (s x : Operand)
    (ho : o.op = .call { callee := .builtin .append, args := #[s, x], argTypes := #[82, 82] }) {B m c : Nat} {A : Option Addr} {u : Nat → Ls.Sl} {f : Nat → List Int} {U : Nat → Nat → Ls.Sl} {F : Nat → Nat → List Int}
    (hs : a.eval s = .slice (some ⟨W.heap.size, 0, none⟩) 1 1) (hx : a.eval x = .slice A m c) (h1 : Ls.L3 W B u f) (hB : B ≤ W.heap.size) (hr : Ls.LRow W B A m U F) (hm : m ≤ 1000)
    (hK : ∀ A' cap w', Ls.LRow w' w'.heap.size A' (1 + m) (ahead u U) (ahead f F) → Below W.heap.size W w' → wpList Tryz.prog ops Q rest (a.put o.dst (.slice A' (1 + m) cap)) w') : wpList Tryz.prog ops Q (o :: rest) a (W.alloc (.cells #[.slice (u 0).a (u 0).n (u 0).c, .slice (u 1).a (u 1).n (u 1).c, .slice (u 2).a (u 2).n (u 2).c] 25)) := by
  refine wpList_plain hgd fun K hK' => ?_
  obtain ⟨A', cap, w', hrun, h2, h3⟩ := run_glue W B m c A u f U F o.type h1 hB hr hm
  unfold Oper.wp execOp
  simp only [ho, resolve, invoke, builtin, Sem.run_bind, Sem.run_pure, Result.andThen_ok, List.map_toArray, List.map_cons, List.map_nil, hs, hx, hrun]
  exact hK' _ _ (hK A' cap w' h2 h3)
end Go.Proofs.YtccjelpfmkbmiaaGreatDoor
end
section
namespace Go.Proofs.YtccjelpfmkbmiaaGreatDoor.Cl
open Go.Proofs.YtccjelpfmkbmiaaGreatDoor
set_option maxRecDepth 100000
open Go.RowKit

/-- The first i cells begin below q, the others not. -/
def CutAt (L : List (Int × Int)) (i : Nat) (q : Int) : Prop := (∀ j c, j < i → L[j]? = some c → c.1 < q) ∧ (∀ j c, i ≤ j → L[j]? = some c → q ≤ c.1)
theorem cut_hit {L : List (Int × Int)} (ha : Apart L) {i : Nat} {q : Int} (h : CutAt L i q) {c : Int × Int} (hc : c ∈ L) (hq : c.1 = q) : L[i]? = some c ∧ CutAt L (i + 1) (q + 1) := by
  obtain ⟨j, hj⟩ := List.getElem?_of_mem hc
  have hi : i ≤ j := by
    rcases Nat.lt_or_ge j i with hlt | hge
    · have := h.1 j c hlt hj
      omega
    · exact hge
  have e : i = j := by
    by_cases hlt : i < j
    · exfalso
      have hjl := (List.getElem?_eq_some_iff.1 hj).1
      obtain ⟨d, hd⟩ : ∃ d, L[i]? = some d := ⟨_, List.getElem?_eq_getElem (by omega)⟩
      have h1 := ha.rise hlt hd hj
      have h2 := h.2 i d (Nat.le_refl _) hd
      have h3 := (ha.2 d (List.mem_of_getElem? hd)).2
      omega
    · omega
  subst e
  refine ⟨hj, fun j' c' hj' hc' => ?_, fun j' c' hj' hc' => ?_⟩
  · by_cases e : j' = i
    · subst e
      rw [hj] at hc'
      cases hc'
      omega
    · have := h.1 j' c' (by omega) hc'
      omega
  · have h1 := ha.rise (by omega) hj hc'
    have h3 := (ha.2 c hc).2
    omega
theorem cut_miss {L : List (Int × Int)} {i : Nat} {q : Int} (h : CutAt L i q) (hn : ¬ ∃ c, c ∈ L ∧ c.1 = q) : CutAt L i (q + 1) := by
  refine ⟨fun j c hj hc => by have := h.1 j c hj hc; omega, fun j c hj hc => ?_⟩
  have h1 := h.2 j c hj hc
  have h2 : c.1 ≠ q := fun e => hn ⟨c, List.mem_of_getElem? hc, e⟩
  omega
theorem cut_end {L : List (Int × Int)} {i : Nat} {q : Int} (h : CutAt L i q) (hq : ∀ c ∈ L, c.1 < q) : L.length ≤ i := by
  rcases Nat.lt_or_ge i L.length with hlt | hge
  · have h1 := h.2 i _ (Nat.le_refl _) (List.getElem?_eq_getElem hlt)
    have h2 := hq _ (List.getElem_mem hlt)
    omega
  · exact hge
theorem allS_short (f : Nat → Int × Int) (n i : Nat) : ((allS f n).take i).length ≤ 512 := by
  have h1 : (allS f n).length = (allL f n).length := by simp [allS]
  have h2 := allL_length f n
  rw [List.length_take]
  omega
theorem allS_step {f : Nat → Int × Int} {n j : Nat} {c : Int × Int} (h : (allL f n)[j]? = some c) : (allS f n).take (j + 1) = (allS f n).take j ++ [c.1] := take_next (by simp [allS, h])
theorem allS_full {f : Nat → Int × Int} {n i : Nat} (h : (allL f n).length ≤ i) : (allS f n).take i = allS f n := List.take_of_length_le (by simp only [allS, List.length_map]; exact h)

section
variable (B : Nat) (A : Option Addr) (n c : Nat) (f : Nat → Int × Int) (a : Int) (w : World)

set_option maxHeartbeats 1000000 in
theorem rall_any (hn : n ≤ 1000) (hr : PRow w B A n f) (hB : B ≤ w.heap.size) :
    Calls Tryz.prog 78 #[.slice A n c] w (Listed w (allS f n)) := by
  have HR := Lib.hid hr
  clear hr
  go_enter Tryz.func78, Tryz.ntmps78
  go_wp2
  go_loopw [3, 4] (fun o p wr => ∃ (q : Int) (i : Nat), 16 ≤ q ∧ q ≤ 16 + 16 * (n : Int) ∧ p = .int .i64 q ∧ Hid (Lst w.heap.size wr o ((allS f n).take i)) ∧ Hid (CutAt (allL f n) i q) ∧ Hid (Below w.heap.size w wr)) (fun _ p _ => (16 + 16 * (n : Int) - intOf p).toNat)
  case atStart => exact ⟨16, 0, by omega, by omega, rfl, Lib.hid (Lst.nil _ _), Lib.hid ⟨fun j c h _ => absurd h (by omega), fun j c _ hc => ((allL_apart f n).2 c (List.mem_of_getElem? hc)).1⟩, Lib.hid (Below.refl _ _)⟩
  case round =>
    obtain ⟨q, i, hq0, hq1, rfl, HO, HC, HBr⟩ := hrel
    have hzr := HBr.out.size
    by_cases hlt : q < 16 + 16 * (n : Int)
    · have dq : decide (q < 16 + 16 * (n : Int)) = true := by simpa using hlt
      obtain ⟨b, HBg⟩ : ∃ b, Hid (bg f n q = b) := ⟨_, Lib.hid rfl⟩
      have hbn := bg_nonneg f n q
      rw [HBg.out] at hbn
      by_cases hb0 : 0 < b
      · have db : decide (0 < b) = true := by simpa using hb0
        have hex : ∃ c, c ∈ allL f n ∧ c.1 = q := bg_some (by rw [HBg.out]; exact hb0)
        obtain ⟨c, hc, hcq⟩ := hex
        obtain ⟨hg, hcut⟩ := cut_hit (allL_apart f n) HC.out hc hcq
        have HT := Lib.hid (allS_step hg)
        have hst := HT.out
        rw [hcq] at hst
        have HT2 := Lib.hid hst
        have HC2 := Lib.hid hcut
        have hsh := allS_short f n i
        clear hc hcq hg hcut hst HT
        go_wp2_with fail
        refine (rbegins_any B A n _ f q _ hn (HR.out.over HBr.out hB) (by omega)).mono ?_
        rintro e w1 ⟨rfl, hb1⟩
        rw [HBg.out]
        have HB1 := Lib.hid (HBr.out.trans (hb1.mono hzr))
        have HO1 := Lib.hid (HO.out.over hb1)
        have hz1 := HB1.out.size
        clear hb1
        go_wp2_with (at_builtin; refine list_cat rfl _ _ rfl rfl rfl rfl (HO1.out.over ((Below.refl _ _).alloc (Nat.le_refl _) _)) (row_lit1 _ q) (by simp; omega) (by simp only [List.length_singleton]; omega) ?_; intro v' w2 hl2 hb2; have HO2 := Lib.hid hl2; have HB2 := Lib.hid ((HB1.out.alloc hz1 _).trans hb2); clear hl2 hb2)
        exact ⟨⟨q + 1, i + 1, by omega, by omega, by go_num, Lib.hid (by rw [HT2.out]; exact HO2.out), HC2, HB2⟩, by simp [intOf]; omega⟩
      · have db : decide (0 < b) = false := by simpa using hb0
        have HC2 := Lib.hid (cut_miss HC.out (fun ⟨c, hc, hcq⟩ => by
          have h1 := bg_cell hc
          rw [hcq, HBg.out] at h1
          have h2 := ((allL_apart f n).2 c hc).2
          omega))
        go_wp2_with fail
        refine (rbegins_any B A n _ f q _ hn (HR.out.over HBr.out hB) (by omega)).mono ?_
        rintro e w1 ⟨rfl, hb1⟩
        rw [HBg.out]
        have HB1 := Lib.hid (HBr.out.trans (hb1.mono hzr))
        have HO1 := Lib.hid (HO.out.over hb1)
        clear hb1
        go_wp2
        go_roundw
        case rel => exact ⟨q + 1, i, by omega, by omega, by go_num, HO1, HC2, HB1⟩
        case measure => simp [intOf]; omega
    · obtain rfl : q = 16 + 16 * (n : Int) := by omega
      have hfull := allS_full (cut_end HC.out (fun c hc => by
        have h1 := (allL_end hc).2
        have h2 := ((allL_apart f n).2 c hc).2
        omega))
      have hO := HO.out
      rw [hfull] at hO
      obtain ⟨a1, c1, rfl, hr1, hc1, hcm1⟩ := hO.row
      have HL : Hid (Listed w (allS f n) (.returned (.slice a1 (allS f n).length c1)) wr) := Lib.hid ⟨a1, c1, rfl, hr1, hc1, hcm1, HBr.out⟩
      obtain ⟨m, hm⟩ : ∃ m, m = (allS f n).length := ⟨_, rfl⟩
      rw [← hm] at HL ⊢
      clear hr1 hc1 hcm1 hO hfull HO hm
      go_wp2
      go_ret
      exact HL.out
end
end Go.Proofs.YtccjelpfmkbmiaaGreatDoor.Cl
end
