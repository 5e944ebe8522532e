/-
  The reference's Few and Own of a thread.
-/
import Derived.Test.YtjppimabhefeeaaGreatDoorORtPut
import Derived.Test.YtjppimabhefeeaaGreatDoorHpOB
namespace Go.Proofs.YtjppimabhefeeaaGreatDoor.Rt
open Go.Proofs.YtjppimabhefeeaaGreatDoor
open Go.RowKit
set_option maxRecDepth 100000

theorem few_is (t : Ts) : fewT t = (decide (t.o.n ≤ 220) && lightB t.u) := rfl
set_option maxHeartbeats 1000000 in
theorem rfew_any (t : Ts) (w : World) : Calls Tryz.prog 6 #[(.agg #[.bool t.lv, .int .i64 (t.r 0), .int .i64 (t.r 1), .int .i64 (t.r 2), .int .i64 (t.r 3), .slice (t.u 0).a (t.u 0).n (t.u 0).c, .slice (t.u 1).a (t.u 1).n (t.u 1).c, .slice (t.u 2).a (t.u 2).n (t.u 2).c, .int .i64 t.ep, .int .i64 t.sg, .int .i64 t.rt, .slice t.o.a t.o.n t.o.c, .int .i64 t.pc, .int .i64 t.x, .int .i64 t.y])] w fun e w' => e = .returned (.bool (fewT t)) ∧ Below w.heap.size w w' := by
  by_cases h : t.o.n ≤ 220
  · rw [few_is, show decide (t.o.n ≤ 220) = true from decide_eq_true h, Bool.true_and]
    have g1 : decide ((t.o.n : Int) ≤ 220) = true := decide_eq_true (by omega)
    have g2 : decide (t.o.n ≤ 220) = true := decide_eq_true h
    obtain ⟨b, hb⟩ : ∃ b, b = lightB t.u := ⟨_, rfl⟩
    have C1 := Lib.hid (fun W => rlight_any t.u W)
    rw [← hb] at C1 ⊢
    clear hb
    go_enter Tryz.func6, Tryz.ntmps6
    go_wp2_with fail
    refine (C1.out _).mono ?_
    rintro e w1 ⟨rfl, hb1⟩
    go_wp2
    go_ret
    exact ⟨rfl, ((Below.refl _ _).alloc (Nat.le_refl _) _).trans (hb1.mono (by simp))⟩
  · rw [few_is, show decide (t.o.n ≤ 220) = false from decide_eq_false h, Bool.false_and]
    have g1 : decide ((t.o.n : Int) ≤ 220) = false := decide_eq_false (by omega)
    have g2 : decide (t.o.n ≤ 220) = false := decide_eq_false h
    go_enter Tryz.func6, Tryz.ntmps6
    go_wp2
    go_ret
    exact ⟨rfl, (Below.refl _ _).alloc (Nat.le_refl _) _⟩
theorem osrc_none {w : World} (A : Option Addr) (c : Nat) : Src Tryz.prog 4 32 (.slice A 0 c) 0 [] w := by
  cases A with
  | none => exact Src.ofNil w Tryz.underlying32 c
  | some a => exact Src.ofSlice w Tryz.underlying32 a 0 c [] rfl (by simp) (by simp)
/-- append([]Op(nil), s...). -/
theorem olist_copied {w : World} {ops : Array Oper} {rest : List Oper} {o : Oper} {a : Act} {Q : Exit → Act → World → Prop} (hgd : o.guard = none) (s x : Operand)
    (ho : o.op = .call { callee := .builtin .append, args := #[s, x], argTypes := #[32, 32] }) {B n c : Nat} {A : Option Addr} {g : Nat → O4}
    (hs : a.eval s = .slice none 0 0) (hx : a.eval x = .slice A n c) (hr : ORow w B A n g) (hbig : n ≤ 100000)
    (hK : ∀ v w', OClo w n g (.returned (.slice v.a n v.c)) w' → (v : Ls.Sl).n = n → ORow w' w'.heap.size v.a n g → (0 < n → ∀ x, v.a = some x → w.heap.size ≤ x.block) → Below w.heap.size w w' → wpList Tryz.prog ops Q rest (a.put o.dst (.slice v.a n v.c)) w') : wpList Tryz.prog ops Q (o :: rest) a w := by
  obtain ⟨i0, hi, hz0, hz1, hz2⟩ := oinfo_parts info_op
  by_cases hn : n = 0
  · subst hn
    refine olist_nothing Tryz.underlying32 hi hgd s x ho hs hx (Nat.le_refl _) (by rw [hz1]; exact osrc_none A c) ?_
    exact hK ⟨none, 0, 0⟩ w ⟨⟨none, 0, 0⟩, rfl, rfl, ORow.empty _ _ _ _, fun h => absurd h (Nat.lt_irrefl 0), Below.refl _ _⟩ rfl (ORow.empty _ _ _ _) (fun h => absurd h (Nat.lt_irrefl 0)) (Below.refl _ _)
  · obtain ⟨b, off, rfl, _, hc⟩ := hr (by omega)
    refine wpList_append_own w hgd s x 32 ho w.heap.size 55 i0 (.agg #[.int .i64 0, .int .i64 0, .int .i64 0, .int .i64 0]) 4 32 Tryz.underlying32 hi hz0 hz1 hz2 rfl (by decide) _ _ _ hs (World.ownsRow_nil _ _ _ _) ⟨b, off, none⟩ n c (ocells g n) hx (ocells_length g n) (fun j u hj => by rw [Addr.add_lit]; exact ORow.src hc j u hj) (fun u hu => by obtain ⟨z, rfl⟩ := ocells_one hu; rfl) (by unfold maxLen; omega) (by omega) (Nat.le_refl _) ?_
    intro v' w1 hown hgrow _
    have hown' : w1.ownsRow w.heap.size 55 4 v' n (ocells g n) := by simpa using hown
    obtain ⟨v, rfl, hvn, hm, _, _, hnew⟩ := orow_of hown'
    have hb : Below w.heap.size w w1 := (Below.refl _ _).grown hgrow (Nat.le_refl _) (by intro k hk; simp [Value.ownBlock] at hk)
    exact hK v w1 ⟨v, hvn, rfl, hm, hnew, hb⟩ hvn hm hnew hb
/-- The boxes of the argument, of the result, and of the copy. -/
structure On (w W : World) (t t' : Ts) : Prop where
  ft : Ft w W t
  out : Box W (w.heap.size + 2) (tv t')
section
variable {w W W' : World} {t t' : Ts} {F : Nat → List Int} {g : Nat → O4} {u : Nat → Ls.Sl} {o : Ls.Sl}
theorem On.next (h : On w W t t') (hb : Below W.heap.size W W') : On w W' t t' := ⟨h.ft.next hb, h.out.next hb⟩
theorem on_start {ty ty' ty2 : TypeId} (h : W = ((w.alloc (.cells #[.bool t.lv, .int .i64 (t.r 0), .int .i64 (t.r 1), .int .i64 (t.r 2), .int .i64 (t.r 3), .slice (t.u 0).a (t.u 0).n (t.u 0).c, .slice (t.u 1).a (t.u 1).n (t.u 1).c, .slice (t.u 2).a (t.u 2).n (t.u 2).c, .int .i64 t.ep, .int .i64 t.sg, .int .i64 t.rt, .slice t.o.a t.o.n t.o.c, .int .i64 t.pc, .int .i64 t.x, .int .i64 t.y] ty)).alloc (.cells (tv noT).toArray ty')).alloc (.cells #[.bool t.lv, .int .i64 (t.r 0), .int .i64 (t.r 1), .int .i64 (t.r 2), .int .i64 (t.r 3), .slice (t.u 0).a (t.u 0).n (t.u 0).c, .slice (t.u 1).a (t.u 1).n (t.u 1).c, .slice (t.u 2).a (t.u 2).n (t.u 2).c, .int .i64 t.ep, .int .i64 t.sg, .int .i64 t.rt, .slice t.o.a t.o.n t.o.c, .int .i64 t.pc, .int .i64 t.x, .int .i64 t.y] ty2)) : On w W t t := by
  obtain ⟨W2, h2⟩ : ∃ W2, W2 = (w.alloc (.cells #[.bool t.lv, .int .i64 (t.r 0), .int .i64 (t.r 1), .int .i64 (t.r 2), .int .i64 (t.r 3), .slice (t.u 0).a (t.u 0).n (t.u 0).c, .slice (t.u 1).a (t.u 1).n (t.u 1).c, .slice (t.u 2).a (t.u 2).n (t.u 2).c, .int .i64 t.ep, .int .i64 t.sg, .int .i64 t.rt, .slice t.o.a t.o.n t.o.c, .int .i64 t.pc, .int .i64 t.x, .int .i64 t.y] ty)).alloc (.cells (tv noT).toArray ty') := ⟨_, rfl⟩
  rw [← h2] at h
  have s2 : W2.heap.size = w.heap.size + 2 := by rw [h2]; simp
  have b3 : Below W2.heap.size W2 W := by rw [h]; exact (Below.refl _ _).alloc (Nat.le_refl _) _
  exact ⟨(ft_start h2).next b3, by rw [h, ← s2]; exact Box.new W2 (tv t) ty2⟩
theorem on_ops (h : On w W t t) (hW : W' = W.setCell ⟨w.heap.size + 2, 11, none⟩ (.slice o.a o.n o.c)) : On w W' t (tw t t.u o) := by
  subst hW
  exact ⟨⟨h.ft.bel.setCell (p := ⟨w.heap.size + 2, 11, none⟩) (by simp) _, h.ft.box.other (by simp) _, h.ft.res.other (by simp) _⟩, h.out.set 11 (.slice o.a o.n o.c)⟩
theorem on_lists (h : On w W t (tw t t.u o)) (hW : W' = ((W.setCell ⟨w.heap.size + 2, 5, none⟩ (.slice (u 0).a (u 0).n (u 0).c)).setCell ⟨w.heap.size + 2, 6, none⟩ (.slice (u 1).a (u 1).n (u 1).c)).setCell ⟨w.heap.size + 2, 7, none⟩ (.slice (u 2).a (u 2).n (u 2).c)) : On w W' t (tw t u o) := by
  subst hW
  exact ⟨⟨((h.ft.bel.setCell (p := ⟨w.heap.size + 2, 5, none⟩) (by simp) _).setCell (p := ⟨w.heap.size + 2, 6, none⟩) (by simp) _).setCell (p := ⟨w.heap.size + 2, 7, none⟩) (by simp) _, ((h.ft.box.other (p := ⟨w.heap.size + 2, 5, none⟩) (by simp) _).other (p := ⟨w.heap.size + 2, 6, none⟩) (by simp) _).other (p := ⟨w.heap.size + 2, 7, none⟩) (by simp) _, ((h.ft.res.other (p := ⟨w.heap.size + 2, 5, none⟩) (by simp) _).other (p := ⟨w.heap.size + 2, 6, none⟩) (by simp) _).other (p := ⟨w.heap.size + 2, 7, none⟩) (by simp) _⟩,
    ((h.out.set 5 (.slice (u 0).a (u 0).n (u 0).c)).set 6 (.slice (u 1).a (u 1).n (u 1).c)).set 7 (.slice (u 2).a (u 2).n (u 2).c)⟩
theorem res_own12 {b : Nat} {tm : Array Value} (ht : tm[2]? = some (.pointer (some ⟨b, 0, none⟩))) (h : Box W b (tv t)) : (results Tryz.f26 tm).run Tryz.prog W = .ok (.agg #[.bool t.lv, .int .i64 (t.r 0), .int .i64 (t.r 1), .int .i64 (t.r 2), .int .i64 (t.r 3), .slice (t.u 0).a (t.u 0).n (t.u 0).c, .slice (t.u 1).a (t.u 1).n (t.u 1).c, .slice (t.u 2).a (t.u 2).n (t.u 2).c, .int .i64 t.ep, .int .i64 t.sg, .int .i64 t.rt, .slice t.o.a t.o.n t.o.c, .int .i64 t.pc, .int .i64 t.x, .int .i64 t.y]) W := by
  have k0 := (h).cel 0 (.bool t.lv) rfl
  have k1 := (h).cel 1 (.int .i64 (t.r 0)) rfl
  have k2 := (h).cel 2 (.int .i64 (t.r 1)) rfl
  have k3 := (h).cel 3 (.int .i64 (t.r 2)) rfl
  have k4 := (h).cel 4 (.int .i64 (t.r 3)) rfl
  have k5 := (h).cel 5 (.slice (t.u 0).a (t.u 0).n (t.u 0).c) rfl
  have k6 := (h).cel 6 (.slice (t.u 1).a (t.u 1).n (t.u 1).c) rfl
  have k7 := (h).cel 7 (.slice (t.u 2).a (t.u 2).n (t.u 2).c) rfl
  have k8 := (h).cel 8 (.int .i64 t.ep) rfl
  have k9 := (h).cel 9 (.int .i64 t.sg) rfl
  have k10 := (h).cel 10 (.int .i64 t.rt) rfl
  have k11 := (h).cel 11 (.slice t.o.a t.o.n t.o.c) rfl
  have k12 := (h).cel 12 (.int .i64 t.pc) rfl
  have k13 := (h).cel 13 (.int .i64 t.x) rfl
  have k14 := (h).cel 14 (.int .i64 t.y) rfl
  have kl := (h).lt
  simp [results, Tryz.results26, go_sem, ht, k0, k1, k2, k3, k4, k5, k6, k7, k8, k9, k10, k11, k12, k13, k14]
/-- The worlds one behind the other: W1 the boxes laid, W2 the operations copied, W3 stored, W4 the lists copied, W' stored. -/
theorem own12_end {W1 W2 W3 W4 : World} (h1 : w.heap.size + 2 < W1.heap.size) (hr : ORow W2 W2.heap.size o.a t.o.n g) (hw : 0 < t.o.n → ∀ x, o.a = some x → W1.heap.size ≤ x.block) (hb2 : Below W1.heap.size W1 W2)
    (h3 : W3 = W2.setCell ⟨w.heap.size + 2, 11, none⟩ (.slice o.a t.o.n o.c)) (ho : Ls.Own3 W4 W3.heap.size u F) (hb4 : Below W3.heap.size W3 W4)
    (hW : W' = ((W4.setCell ⟨w.heap.size + 2, 5, none⟩ (.slice (u 0).a (u 0).n (u 0).c)).setCell ⟨w.heap.size + 2, 6, none⟩ (.slice (u 1).a (u 1).n (u 1).c)).setCell ⟨w.heap.size + 2, 7, none⟩ (.slice (u 2).a (u 2).n (u 2).c)) (hbw : Below w.heap.size w W') :
    ThOut w t F g (.returned (.agg #[.bool (tw t u ⟨o.a, t.o.n, o.c⟩).lv, .int .i64 ((tw t u ⟨o.a, t.o.n, o.c⟩).r 0), .int .i64 ((tw t u ⟨o.a, t.o.n, o.c⟩).r 1), .int .i64 ((tw t u ⟨o.a, t.o.n, o.c⟩).r 2), .int .i64 ((tw t u ⟨o.a, t.o.n, o.c⟩).r 3), .slice ((tw t u ⟨o.a, t.o.n, o.c⟩).u 0).a ((tw t u ⟨o.a, t.o.n, o.c⟩).u 0).n ((tw t u ⟨o.a, t.o.n, o.c⟩).u 0).c, .slice ((tw t u ⟨o.a, t.o.n, o.c⟩).u 1).a ((tw t u ⟨o.a, t.o.n, o.c⟩).u 1).n ((tw t u ⟨o.a, t.o.n, o.c⟩).u 1).c, .slice ((tw t u ⟨o.a, t.o.n, o.c⟩).u 2).a ((tw t u ⟨o.a, t.o.n, o.c⟩).u 2).n ((tw t u ⟨o.a, t.o.n, o.c⟩).u 2).c, .int .i64 (tw t u ⟨o.a, t.o.n, o.c⟩).ep, .int .i64 (tw t u ⟨o.a, t.o.n, o.c⟩).sg, .int .i64 (tw t u ⟨o.a, t.o.n, o.c⟩).rt, .slice (tw t u ⟨o.a, t.o.n, o.c⟩).o.a (tw t u ⟨o.a, t.o.n, o.c⟩).o.n (tw t u ⟨o.a, t.o.n, o.c⟩).o.c, .int .i64 (tw t u ⟨o.a, t.o.n, o.c⟩).pc, .int .i64 (tw t u ⟨o.a, t.o.n, o.c⟩).x, .int .i64 (tw t u ⟨o.a, t.o.n, o.c⟩).y])) (puts (w.heap.size + 1) 0 (tv (tw t u ⟨o.a, t.o.n, o.c⟩)) W') := by
  have s3 : W3.heap.size = W2.heap.size := by rw [h3]; simp [World.setCell]
  have s4 : W'.heap.size = W4.heap.size := by rw [hW]; simp [World.setCell]
  have l2 := hb2.size
  have l4 := hb4.size
  have e4 : ∀ k, ¬ k = w.heap.size + 2 → W'.heap[k]? = W4.heap[k]? := fun k hk => by
    rw [hW]
    exact (Below.heap_setCell _ _ _ _ hk).trans ((Below.heap_setCell _ _ _ _ hk).trans (Below.heap_setCell _ _ _ _ hk))
  have e3 : ∀ k, ¬ k = w.heap.size + 2 → W3.heap[k]? = W2.heap[k]? := fun k hk => by rw [h3]; exact Below.heap_setCell _ _ _ _ hk
  have se : ∀ k, w.heap.size + 3 ≤ k → (puts (w.heap.size + 1) 0 (tv (tw t u ⟨o.a, t.o.n, o.c⟩)) W').heap[k]? = W4.heap[k]? := fun k hk => (puts_other _ _ _ _ (by omega)).trans (e4 k (by omega))
  have hz : (puts (w.heap.size + 1) 0 (tv (tw t u ⟨o.a, t.o.n, o.c⟩)) W').heap.size = W4.heap.size := (puts_size _ _ _ _).trans s4
  have bl : ∀ x : Addr, 0 < t.o.n → o.a = some x → x.block < W2.heap.size := fun x hn e => by
    obtain ⟨b, off, e', hlt, _⟩ := hr hn
    rw [e] at e'
    cases e'
    exact hlt
  refine ⟨u, ⟨o.a, t.o.n, o.c⟩, rfl, rfl, ⟨?_, ?_⟩, fun j hj x hx => by have := (ho.block j hj hx).1; omega, fun h0 x hx => by have := hw h0 x hx; omega, below_puts _ (by omega) _ _ _ hbw⟩
  · exact (ho.same fun j x hj hx => se _ (by have := (ho.block j hj hx).1; omega)).l3
  · rw [hz]
    refine (hr.same fun h0 x hx => ?_).more (by omega)
    have hx1 := hw h0 x hx
    have hx2 := bl x h0 hx
    exact (se _ (by omega)).trans ((hb4.block _ (by omega)).trans (e3 _ (by omega)))
end
set_option maxHeartbeats 4000000 in
theorem rown12_any (t : Ts) (F : Nat → List Int) (g : Nat → O4) (w : World) (h : Th w w.heap.size t F g) (hn : ∀ j, j < 3 → (t.u j).n ≤ 2000000) (hm : t.o.n ≤ 100000) : Calls Tryz.prog 26 #[(.agg #[.bool t.lv, .int .i64 (t.r 0), .int .i64 (t.r 1), .int .i64 (t.r 2), .int .i64 (t.r 3), .slice (t.u 0).a (t.u 0).n (t.u 0).c, .slice (t.u 1).a (t.u 1).n (t.u 1).c, .slice (t.u 2).a (t.u 2).n (t.u 2).c, .int .i64 t.ep, .int .i64 t.sg, .int .i64 t.rt, .slice t.o.a t.o.n t.o.c, .int .i64 t.pc, .int .i64 t.x, .int .i64 t.y])] w (ThOut w t F g) := by
  have HT := Lib.hid h
  have HN := Lib.hid hn
  clear h hn
  go_enter Tryz.func26, Tryz.ntmps26
  go_upto_region 2 with fail
  obtain ⟨W1, hW1⟩ : ∃ W1, W1 = ((w.alloc (.cells #[.bool t.lv, .int .i64 (t.r 0), .int .i64 (t.r 1), .int .i64 (t.r 2), .int .i64 (t.r 3), .slice (t.u 0).a (t.u 0).n (t.u 0).c, .slice (t.u 1).a (t.u 1).n (t.u 1).c, .slice (t.u 2).a (t.u 2).n (t.u 2).c, .int .i64 t.ep, .int .i64 t.sg, .int .i64 t.rt, .slice t.o.a t.o.n t.o.c, .int .i64 t.pc, .int .i64 t.x, .int .i64 t.y] 34)).alloc (.cells #[.bool false, .int .i64 0, .int .i64 0, .int .i64 0, .int .i64 0, .slice none 0 0, .slice none 0 0, .slice none 0 0, .int .i64 0, .int .i64 0, .int .i64 0, .slice none 0 0, .int .i64 0, .int .i64 0, .int .i64 0] 34)).alloc (.cells #[.bool t.lv, .int .i64 (t.r 0), .int .i64 (t.r 1), .int .i64 (t.r 2), .int .i64 (t.r 3), .slice (t.u 0).a (t.u 0).n (t.u 0).c, .slice (t.u 1).a (t.u 1).n (t.u 1).c, .slice (t.u 2).a (t.u 2).n (t.u 2).c, .int .i64 t.ep, .int .i64 t.sg, .int .i64 t.rt, .slice t.o.a t.o.n t.o.c, .int .i64 t.pc, .int .i64 t.x, .int .i64 t.y] 34) := ⟨_, rfl⟩
  have K1 := Lib.hid (on_start hW1)
  rw [← hW1]
  clear hW1
  have p11 := K1.out.ft.box.cel 11 (.slice t.o.a t.o.n t.o.c) rfl
  have pl := K1.out.ft.box.lt
  go_wp2_with (at_builtin; refine olist_copied rfl _ _ rfl rfl rfl (HT.out.next K1.out.ft.bel).o hm ?_)
  intro o w2 _ hon hr hw hb2
  have K2 := Lib.hid (K1.out.next hb2)
  have T2 := Lib.hid (And.intro hr (And.intro hw hb2))
  have q11 := K2.out.out.cel 11 (.slice t.o.a t.o.n t.o.c) rfl
  have qf := K2.out.out.free 11
  have ql := K2.out.out.lt
  clear hon hr hw hb2 p11 pl
  go_upto_region 3 with fail
  obtain ⟨W3, hW3⟩ : ∃ W3, W3 = w2.setCell ⟨w.heap.size + 1 + 1, 11, none⟩ (.slice o.a t.o.n o.c) := ⟨_, rfl⟩
  have K3 := Lib.hid (on_ops (o := ⟨o.a, t.o.n, o.c⟩) K2.out hW3)
  have E3 := Lib.hid hW3
  rw [← hW3]
  clear hW3 q11 qf ql
  have p5 := K3.out.ft.box.cel 5 (.slice (t.u 0).a (t.u 0).n (t.u 0).c) rfl
  have p6 := K3.out.ft.box.cel 6 (.slice (t.u 1).a (t.u 1).n (t.u 1).c) rfl
  have p7 := K3.out.ft.box.cel 7 (.slice (t.u 2).a (t.u 2).n (t.u 2).c) rfl
  have pl := K3.out.ft.box.lt
  go_wp2_with fail
  refine (Ls.rown_any W3.heap.size t.u F W3 (HT.out.next K3.out.ft.bel).c (Nat.le_refl _) HN.out).mono ?_
  rintro e w4 ⟨u, rfl, ho, hb4⟩
  have K4 := Lib.hid (K3.out.next hb4)
  have T4 := Lib.hid (And.intro ho hb4)
  have q5 := K4.out.out.cel 5 (.slice (t.u 0).a (t.u 0).n (t.u 0).c) rfl
  have q6 := K4.out.out.cel 6 (.slice (t.u 1).a (t.u 1).n (t.u 1).c) rfl
  have q7 := K4.out.out.cel 7 (.slice (t.u 2).a (t.u 2).n (t.u 2).c) rfl
  have qf := K4.out.out.free
  have ql := K4.out.out.lt
  clear ho hb4 p5 p6 p7 pl
  go_upto_region 4 with fail
  obtain ⟨W5, hW5⟩ : ∃ W5, W5 = ((w4.setCell ⟨w.heap.size + 1 + 1, 5, none⟩ (.slice (u 0).a (u 0).n (u 0).c)).setCell ⟨w.heap.size + 1 + 1, 6, none⟩ (.slice (u 1).a (u 1).n (u 1).c)).setCell ⟨w.heap.size + 1 + 1, 7, none⟩ (.slice (u 2).a (u 2).n (u 2).c) := ⟨_, rfl⟩
  obtain ⟨t9, ht9⟩ : ∃ t9, t9 = tw t u ⟨o.a, t.o.n, o.c⟩ := ⟨_, rfl⟩
  have K5 := on_lists (u := u) K4.out hW5
  rw [← ht9] at K5
  have K5 := Lib.hid K5
  have E5 := Lib.hid hW5
  have E9 := Lib.hid ht9
  rw [← hW5]
  clear hW5 ht9 q5 q6 q7 qf ql
  have z0 := (K5.out.out).cel 0 (.bool t9.lv) rfl
  have z1 := (K5.out.out).cel 1 (.int .i64 (t9.r 0)) rfl
  have z2 := (K5.out.out).cel 2 (.int .i64 (t9.r 1)) rfl
  have z3 := (K5.out.out).cel 3 (.int .i64 (t9.r 2)) rfl
  have z4 := (K5.out.out).cel 4 (.int .i64 (t9.r 3)) rfl
  have z5 := (K5.out.out).cel 5 (.slice (t9.u 0).a (t9.u 0).n (t9.u 0).c) rfl
  have z6 := (K5.out.out).cel 6 (.slice (t9.u 1).a (t9.u 1).n (t9.u 1).c) rfl
  have z7 := (K5.out.out).cel 7 (.slice (t9.u 2).a (t9.u 2).n (t9.u 2).c) rfl
  have z8 := (K5.out.out).cel 8 (.int .i64 t9.ep) rfl
  have z9 := (K5.out.out).cel 9 (.int .i64 t9.sg) rfl
  have z10 := (K5.out.out).cel 10 (.int .i64 t9.rt) rfl
  have z11 := (K5.out.out).cel 11 (.slice t9.o.a t9.o.n t9.o.c) rfl
  have z12 := (K5.out.out).cel 12 (.int .i64 t9.pc) rfl
  have z13 := (K5.out.out).cel 13 (.int .i64 t9.x) rfl
  have z14 := (K5.out.out).cel 14 (.int .i64 t9.y) rfl
  have zl := (K5.out.out).lt
  have y0 := (K5.out.ft.res).cel 0 (.bool noT.lv) rfl
  have y1 := (K5.out.ft.res).cel 1 (.int .i64 (noT.r 0)) rfl
  have y2 := (K5.out.ft.res).cel 2 (.int .i64 (noT.r 1)) rfl
  have y3 := (K5.out.ft.res).cel 3 (.int .i64 (noT.r 2)) rfl
  have y4 := (K5.out.ft.res).cel 4 (.int .i64 (noT.r 3)) rfl
  have y5 := (K5.out.ft.res).cel 5 (.slice (noT.u 0).a (noT.u 0).n (noT.u 0).c) rfl
  have y6 := (K5.out.ft.res).cel 6 (.slice (noT.u 1).a (noT.u 1).n (noT.u 1).c) rfl
  have y7 := (K5.out.ft.res).cel 7 (.slice (noT.u 2).a (noT.u 2).n (noT.u 2).c) rfl
  have y8 := (K5.out.ft.res).cel 8 (.int .i64 noT.ep) rfl
  have y9 := (K5.out.ft.res).cel 9 (.int .i64 noT.sg) rfl
  have y10 := (K5.out.ft.res).cel 10 (.int .i64 noT.rt) rfl
  have y11 := (K5.out.ft.res).cel 11 (.slice noT.o.a noT.o.n noT.o.c) rfl
  have y12 := (K5.out.ft.res).cel 12 (.int .i64 noT.pc) rfl
  have y13 := (K5.out.ft.res).cel 13 (.int .i64 noT.x) rfl
  have y14 := (K5.out.ft.res).cel 14 (.int .i64 noT.y) rfl
  have yl := (K5.out.ft.res).lt
  have yf := K5.out.ft.res.free
  dsimp only [noT, Ls.noSl] at y0 y1 y2 y3 y4 y5 y6 y7 y8 y9 y10 y11 y12 y13 y14
  go_wp2
  have BE := Box.puts (tv t9) 0 K5.out.ft.res
  refine bodyPost_ret (v := (.agg #[.bool t9.lv, .int .i64 (t9.r 0), .int .i64 (t9.r 1), .int .i64 (t9.r 2), .int .i64 (t9.r 3), .slice (t9.u 0).a (t9.u 0).n (t9.u 0).c, .slice (t9.u 1).a (t9.u 1).n (t9.u 1).c, .slice (t9.u 2).a (t9.u 2).n (t9.u 2).c, .int .i64 t9.ep, .int .i64 t9.sg, .int .i64 t9.rt, .slice t9.o.a t9.o.n t9.o.c, .int .i64 t9.pc, .int .i64 t9.x, .int .i64 t9.y])) (res_own12 rfl BE) rfl ?_
  rw [E9.out]
  exact own12_end (t := t) (u := u) (o := o) K1.out.out.lt T2.out.1 T2.out.2.1 T2.out.2.2 E3.out T4.out.1 T4.out.2 E5.out K5.out.ft.bel
end Go.Proofs.YtjppimabhefeeaaGreatDoor.Rt
