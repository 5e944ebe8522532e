/-
  AllocTakes: of any heap and cache room is taken for any head as the document says, or it is told why not: for every heap of at most 9 pages and 130 words, every cache of at most 70 cells of each class, and every head; the table of sizes is tied to the program's text by the card.
-/
import Derived.Test.YtdmclfolooiccaaGreatDoorHpAS
import Derived.Test.YtdmclfolooiccaaGreatDoorHpAW
namespace Go.Proofs.YtdmclfolooiccaaGreatDoor.AllocTakes
open Go.Proofs.YtdmclfolooiccaaGreatDoor Go.Proofs.YtdmclfolooiccaaGreatDoor.Al
open Go.ChangeShapes Go.WideShapes Go.ChangeAt Go.RowKit
set_option maxRecDepth 100000

theorem same_tk {W : World} {t2 t3 : Hs} {D : Hd_} {wn pn cn : Nat} (h2 : Hp W W.heap.size t2 D) (h3 : Hp W W.heap.size t3 D) (l2 : t2.w.n = wn ∧ t2.p.n = pn ∧ t2.c.n = cn) (l3 : t3.w.n = wn ∧ t3.p.n = pn ∧ t3.c.n = cn) (hw : wn ≤ 4000) (hpn : pn ≤ 1000) (hc : cn ≤ 100000) (hF : ∀ j, j < 3 → (D.F j).length ≤ 4000000) :
    Calls Tryz.prog 9 #[(.agg #[.slice t2.w.a t2.w.n t2.w.c, .slice t2.p.a t2.p.n t2.p.c, .slice (t2.u 0).a (t2.u 0).n (t2.u 0).c, .slice (t2.u 1).a (t2.u 1).n (t2.u 1).c, .slice (t2.u 2).a (t2.u 2).n (t2.u 2).c, .slice t2.c.a t2.c.n t2.c.c]), (.agg #[.slice t3.w.a t3.w.n t3.w.c, .slice t3.p.a t3.p.n t3.p.c, .slice (t3.u 0).a (t3.u 0).n (t3.u 0).c, .slice (t3.u 1).a (t3.u 1).n (t3.u 1).c, .slice (t3.u 2).a (t3.u 2).n (t3.u 2).c, .slice t3.c.a t3.c.n t3.c.c])] W fun e w' => e = .returned (.bool true) ∧ Below W.heap.size W w' := by
  have k2 : ∀ j, j < 3 → (t2.u j).n ≤ 4000000 := fun j hj => by have h1 := h2.free.len j hj; have h4 := hF j hj; omega
  have k3 : ∀ j, j < 3 → (t3.u j).n ≤ 4000000 := fun j hj => by have h1 := h3.free.len j hj; have h4 := hF j hj; omega
  obtain ⟨⟨A1, N1, C1⟩, ⟨A2, N2, C2⟩, v, ⟨A3, N3, C3⟩⟩ := t3
  obtain ⟨x1, x2, x3⟩ := l3
  obtain ⟨y1, y2, y3⟩ := l2
  dsimp only at x1 x2 x3
  subst x1 x2 x3
  rw [← y1, ← y2, ← y3] at h3 ⊢
  exact rsame_yes t2 D D A1 A2 A3 C1 C2 C3 v W h2 h3 rfl (fun _ _ => rfl) (fun _ _ => rfl) (fun _ _ => rfl) (by omega) (by omega) (by omega) k2 k3
/-- A heap in a box. -/
structure Bx (W : World) (b : Nat) (t : Hs) (D : Hd_) : Prop where
  hb : HBox W b t
  hp : Hp W W.heap.size t D
theorem Bx.next {W W' : World} {b : Nat} {t : Hs} {D : Hd_} (h : Bx W b t D) (hb : Below W.heap.size W W') : Bx W' b t D := ⟨h.hb.next hb, h.hp.next hb⟩
theorem bx_new {w W : World} {t : Hs} {D : Hd_} {b : Nat} (h : W = w.alloc (.cells #[.slice t.w.a t.w.n t.w.c, .slice t.p.a t.p.n t.p.c, .slice (t.u 0).a (t.u 0).n (t.u 0).c, .slice (t.u 1).a (t.u 1).n (t.u 1).c, .slice (t.u 2).a (t.u 2).n (t.u 2).c, .slice t.c.a t.c.n t.c.c] 28)) (hb : b = w.heap.size) (hp : Hp w w.heap.size t D) : Bx W b t D := by
  subst h hb
  exact ⟨HBox.new w t _, hp.next ((Below.refl _ _).alloc (Nat.le_refl _) _)⟩
/-- Lists in a box. -/
structure Cx (W : World) (b : Nat) (v : Nat → Ls.Sl) (F : Nat → List Int) : Prop where
  cb : Ls.Box3 W b v
  l3 : Ls.L3 W W.heap.size v F
theorem Cx.next {W W' : World} {b : Nat} {v : Nat → Ls.Sl} {F : Nat → List Int} (h : Cx W b v F) (hb : Below W.heap.size W W') : Cx W' b v F := ⟨h.cb.next hb, h.l3.next hb⟩
theorem cx_new {w W : World} {v : Nat → Ls.Sl} {F : Nat → List Int} {b : Nat} (h : W = w.alloc (.cells #[.slice (v 0).a (v 0).n (v 0).c, .slice (v 1).a (v 1).n (v 1).c, .slice (v 2).a (v 2).n (v 2).c] 25)) (hb : b = w.heap.size) (hp : Ls.L3 w w.heap.size v F) : Cx W b v F := by
  subst h hb
  exact ⟨Ls.Box3.new w v _, hp.next ((Below.refl _ _).alloc (Nat.le_refl _) _)⟩
/-- No list of what is told is great. -/
theorem takes_len (s : Hs) (d : Hd_) (G : Nat → List Int) (us o e : Bool) (N b m : Int) {w : World} {u : Nat → Ls.Sl} (hp : Hp w w.heap.size s d) (l3 : Ls.L3 w w.heap.size u G) (hf : FineT s d u G) :
    (tkR s d G us o e N b m).wn ≤ 4000 ∧ (tkR s d G us o e N b m).pn ≤ 1000 ∧ (tkR s d G us o e N b m).cn ≤ 100000 ∧ (∀ j, j < 3 → ((tkR s d G us o e N b m).d.F j).length ≤ 4000000) ∧ ∀ j, j < 3 → ((tkR s d G us o e N b m).G j).length ≤ 4000000 := by
  have hF : ∀ j, j < 3 → (d.F j).length ≤ 1000000 := fun j hj => by have := hp.free.len j hj; have := hf.lu j hj; omega
  have hG : ∀ j, j < 3 → (G j).length ≤ 1000000 := fun j hj => by have := l3.len j hj; have := hf.lg j hj; omega
  have h0 : ∀ er, (tkNo er).wn ≤ 4000 ∧ (tkNo er).pn ≤ 1000 ∧ (tkNo er).cn ≤ 100000 ∧ (∀ j, j < 3 → ((tkNo er).d.F j).length ≤ 4000000) ∧ ∀ j, j < 3 → ((tkNo er).G j).length ≤ 4000000 := fun er => by
    unfold tkNo dNone Ls.noLists
    simp
  unfold tkR
  split
  · cases hq : takeO d s.p.n G N with
    | none => exact h0 4
    | some q =>
      have hw := hf.fine.wn
      have hpn := hf.fine.pn
      have hc := hf.fine.cn
      suffices hh : (∀ j, j < 3 → (q.1.F j).length ≤ 4000000) ∧ ∀ j, j < 3 → (q.2.1 j).length ≤ 4000000 by
        exact ⟨hw, by show s.p.n ≤ 1000; omega, hc, hh.1, hh.2⟩
      unfold takeO at hq
      split at hq
      · split at hq
        · cases hq
          exact ⟨fun j hj => by have := hF j hj; show (d.F j).length ≤ _; omega, fun j hj => by have := hG j hj; show (G j).length ≤ _; omega⟩
        · cases hq
      · split at hq
        · next q' hq' =>
          cases hq
          have hpop : ∀ k, ∀ j, (popG q'.2 k j).length ≤ (q'.2 j).length := fun k j => by
            unfold popG Ls.upd
            split
            · next e => rw [e, List.length_take]; omega
            · exact Nat.le_refl _
          suffices hh : (∀ j, j < 3 → (q'.1.F j).length ≤ 4000000) ∧ ∀ j, j < 3 → (q'.2 j).length ≤ 4000000 by
            exact ⟨hh.1, fun j hj => Nat.le_trans (hpop _ j) (hh.2 j hj)⟩
          have fill : ∀ (F : Nat → List Int) (k : Nat), (∀ j, (F j).length ≤ 1001000 ∨ ¬ j < 3) → k < 3 → (∀ j, j < 3 → ((Ls.upd F k ((F k).take ((F k).length - 2))) j).length ≤ 4000000) ∧ ∀ j, j < 3 → (fillG F G k j).length ≤ 4000000 := fun F k h hk => by
            refine ⟨fun j hj => ?_, fun j hj => ?_⟩
            · have h1 := h j
              have h2 := h k
              unfold Ls.upd
              split
              · rw [List.length_take]; omega
              · omega
            · have h1 := hG j hj
              have h2 := h k
              unfold fillG Ls.upd
              split
              · next e => rw [List.length_append, List.length_reverse, List.length_drop, ← e]; have := h j; omega
              · omega
          have hk : (Cl.classOf N).toNat < 3 := by have := class_small (N := N) (by assumption); omega
          unfold smallO at hq'
          split at hq'
          · cases hq'
            exact ⟨fun j hj => by have := hF j hj; show (d.F j).length ≤ 4000000; omega, fun j hj => by have := hG j hj; show (G j).length ≤ 4000000; omega⟩
          · split at hq'
            · cases hq'
              exact fill d.F _ (fun j => (Nat.lt_or_ge j 3).elim (fun hj => .inl (by have := hF j hj; omega)) (fun hj => .inr (by omega))) hk
            · split at hq'
              · next p hp =>
                cases hq'
                refine fill _ _ (fun j => ?_) hk
                by_cases hj : j < 3
                · left
                  have h1 := hF j hj
                  have h2 := hF _ hk
                  have h3 : (Cl.onS (Cl.put d.f p (1, ((Cl.classOf N).toNat : Int))) s.p.n p).length ≤ 512 := by
                    rw [← Cl.filter_allS]
                    have h1 := List.length_filter_le (fun a => a / 16 - 1 == (p : Int)) (Cl.allS (Cl.put d.f p (1, ((Cl.classOf N).toNat : Int))) s.p.n)
                    have h2 := Cl.allL_length (Cl.put d.f p (1, ((Cl.classOf N).toNat : Int))) s.p.n
                    have h3 : (Cl.allS (Cl.put d.f p (1, ((Cl.classOf N).toNat : Int))) s.p.n).length = (Cl.allL (Cl.put d.f p (1, ((Cl.classOf N).toNat : Int))) s.p.n).length := by simp [Cl.allS]
                    omega
                  unfold splitD Ls.upd
                  simp only
                  split
                  · rw [List.length_append, List.length_reverse]; omega
                  · omega
                · right
                  exact hj
              · cases hq'
        · cases hq
  · exact h0 _
section
variable (s : Hs) (d : Hd_) (u : Nat → Ls.Sl) (G : Nat → List Int) (us o e : Bool) (N b m : Int) (w : World)
theorem walk_few (hf : fewL s (fun _ => u) 1 = false) (hz : Cl.Sz w) (hp : Hp w w.heap.size s d) (l3 : Ls.L3 w w.heap.size u G) : Calls Tryz.prog 3 #[(.agg #[.slice s.w.a s.w.n s.w.c, .slice s.p.a s.p.n s.p.c, .slice (s.u 0).a (s.u 0).n (s.u 0).c, .slice (s.u 1).a (s.u 1).n (s.u 1).c, .slice (s.u 2).a (s.u 2).n (s.u 2).c, .slice s.c.a s.c.n s.c.c]), (.agg #[.slice (u 0).a (u 0).n (u 0).c, .slice (u 1).a (u 1).n (u 1).c, .slice (u 2).a (u 2).n (u 2).c]), .agg #[.bool us, .bool o, .bool e, .int .i64 N, .int .i64 b, .int .i64 m]] w fun e w' => e = .returned (.bool true) ∧ Below w.heap.size w w' := by
  have HZ := Lib.hid hz
  have hz0 := hz.pos
  have HP := Lib.hid hp
  have HL := Lib.hid l3
  have HF := Lib.hid hf
  clear hz hp l3 hf
  go_enter Tryz.func3, Tryz.ntmps3
  go_wp2_with fail
  obtain ⟨W0, hW0⟩ : ∃ W0, W0 = (w.alloc (.cells #[.slice s.w.a s.w.n s.w.c, .slice s.p.a s.p.n s.p.c, .slice (s.u 0).a (s.u 0).n (s.u 0).c, .slice (s.u 1).a (s.u 1).n (s.u 1).c, .slice (s.u 2).a (s.u 2).n (s.u 2).c, .slice s.c.a s.c.n s.c.c] 28)).alloc (.cells #[.slice (u 0).a (u 0).n (u 0).c, .slice (u 1).a (u 1).n (u 1).c, .slice (u 2).a (u 2).n (u 2).c] 25) := ⟨_, rfl⟩
  obtain ⟨W1, hW1⟩ : ∃ W1, W1 = W0.alloc (.cells #[.bool us, .bool o, .bool e, .int .i64 N, .int .i64 b, .int .i64 m] 30) := ⟨_, rfl⟩
  have X1 : Hid (X6 W1 (w.heap.size + 2) us o e N b m) := Lib.hid (x6_three (s := s) (u := u) (w := w) (by rw [hW1, hW0]))
  have L0 := lw_start HP.out HL.out hW0
  rw [← hW0, ← hW1]
  have L1 : Hid (Lw w W1 s d u G) := Lib.hid (by rw [hW1]; exact L0.next ((Below.refl _ _).alloc (Nat.le_refl _) _))
  clear hW0 hW1 L0
  refine (Al.awake_any W1 (HZ.out.over L1.out.bel hz0)).mono ?_
  rintro e9 w1 ⟨rfl, hb1⟩
  have L2 := Lib.hid (L1.out.next hb1)
  have X2 := Lib.hid (X1.out.next hb1)
  clear hb1 L1 X1
  have q0 := L2.out.hb.c0
  have q1 := L2.out.hb.c1
  have q2 := L2.out.hb.c2
  have q3 := L2.out.hb.c3
  have q4 := L2.out.hb.c4
  have q5 := L2.out.hb.c5
  have ql := L2.out.hb.lt
  have p0 := L2.out.cb.cell 0 (by decide)
  have p1 := L2.out.cb.cell 1 (by decide)
  have p2 := L2.out.cb.cell 2 (by decide)
  have pl := L2.out.cb.lt
  go_wp2_with fail
  have b2 := (Below.refl w1.heap.size w1).alloc (Nat.le_refl _) (.cells #[.slice (u 0).a (u 0).n (u 0).c, .slice (u 1).a (u 1).n (u 1).c, .slice (u 2).a (u 2).n (u 2).c] 25)
  refine (few8_any s (some ⟨w1.heap.size, 0, none⟩) 1 1 (fun _ => u) (fun _ => G) (w1.alloc (.cells #[.slice (u 0).a (u 0).n (u 0).c, .slice (u 1).a (u 1).n (u 1).c, .slice (u 2).a (u 2).n (u 2).c] 25)) (by omega) (lrow_of (own_one w1 u) (by simp) (fun _ _ => L2.out.l3.next b2))).mono ?_
  rw [HF.out]
  rintro e9 w2 ⟨rfl, hb2⟩
  have L3 := Lib.hid ((L2.out.next b2).next hb2)
  have X3 := Lib.hid ((X2.out.next b2).next hb2)
  clear b2 hb2 L2 X2
  clear q0 q1 q2 q3 q4 q5 ql p0 p1 p2 pl
  go_wp2
  go_ret
  exact ⟨rfl, L3.out.bel⟩
set_option maxHeartbeats 8000000 in
theorem core (r r2 : Tk) (rb : Bool) (hrb : (rb == (r2.er == 0)) = true) (c1 : ∀ W, Lw w W s d u G → Calls Tryz.prog 7 #[(.agg #[.slice s.w.a s.w.n s.w.c, .slice s.p.a s.p.n s.p.c, .slice (s.u 0).a (s.u 0).n (s.u 0).c, .slice (s.u 1).a (s.u 1).n (s.u 1).c, .slice (s.u 2).a (s.u 2).n (s.u 2).c, .slice s.c.a s.c.n s.c.c]), (.agg #[.slice (u 0).a (u 0).n (u 0).c, .slice (u 1).a (u 1).n (u 1).c, .slice (u 2).a (u 2).n (u 2).c]), .agg #[.bool us, .bool o, .bool e, .int .i64 N, .int .i64 b, .int .i64 m]] W (TkO W r.a r.er r.wn r.pn r.cn r.d r.G) ) (c2 : ∀ W, Lw w W s d u G → Calls Tryz.prog 8 #[(.agg #[.slice s.w.a s.w.n s.w.c, .slice s.p.a s.p.n s.p.c, .slice (s.u 0).a (s.u 0).n (s.u 0).c, .slice (s.u 1).a (s.u 1).n (s.u 1).c, .slice (s.u 2).a (s.u 2).n (s.u 2).c, .slice s.c.a s.c.n s.c.c]), (.agg #[.slice (u 0).a (u 0).n (u 0).c, .slice (u 1).a (u 1).n (u 1).c, .slice (u 2).a (u 2).n (u 2).c]), .agg #[.bool us, .bool o, .bool e, .int .i64 N, .int .i64 b, .int .i64 m]] W (TkO W r.a r.er r.wn r.pn r.cn r.d r.G) ) (c3 : ∀ W, Lw w W s d u G → Calls Tryz.prog 8 #[(.agg #[.slice s.w.a s.w.n s.w.c, .slice s.p.a s.p.n s.p.c, .slice (s.u 0).a (s.u 0).n (s.u 0).c, .slice (s.u 1).a (s.u 1).n (s.u 1).c, .slice (s.u 2).a (s.u 2).n (s.u 2).c, .slice s.c.a s.c.n s.c.c]), (.agg #[.slice (u 0).a (u 0).n (u 0).c, .slice (u 1).a (u 1).n (u 1).c, .slice (u 2).a (u 2).n (u 2).c]), .agg #[.bool true, .bool false, .bool false, .int .i64 N, .int .i64 0, .int .i64 0]] W (TkO W r2.a r2.er r2.wn r2.pn r2.cn r2.d r2.G) ) (c4 : ∀ W, Lw w W s d u G → Calls Tryz.prog 11 #[(.agg #[.slice s.w.a s.w.n s.w.c, .slice s.p.a s.p.n s.p.c, .slice (s.u 0).a (s.u 0).n (s.u 0).c, .slice (s.u 1).a (s.u 1).n (s.u 1).c, .slice (s.u 2).a (s.u 2).n (s.u 2).c, .slice s.c.a s.c.n s.c.c]), (.agg #[.slice (u 0).a (u 0).n (u 0).c, .slice (u 1).a (u 1).n (u 1).c, .slice (u 2).a (u 2).n (u 2).c]), .int .i64 N] W fun e w' => e = .returned (.bool rb) ∧ Below W.heap.size W w') (c5 : ∀ W, Lw w W s d u G → Calls Tryz.prog 6 #[(.agg #[.slice s.w.a s.w.n s.w.c, .slice s.p.a s.p.n s.p.c, .slice (s.u 0).a (s.u 0).n (s.u 0).c, .slice (s.u 1).a (s.u 1).n (s.u 1).c, .slice (s.u 2).a (s.u 2).n (s.u 2).c, .slice s.c.a s.c.n s.c.c])] W fun e w' => ∃ t : Hs, e = .returned (.agg #[.slice t.w.a t.w.n t.w.c, .slice t.p.a t.p.n t.p.c, .slice (t.u 0).a (t.u 0).n (t.u 0).c, .slice (t.u 1).a (t.u 1).n (t.u 1).c, .slice (t.u 2).a (t.u 2).n (t.u 2).c, .slice t.c.a t.c.n t.c.c]) ∧ Hp w' w'.heap.size t d ∧ (t.w.n = s.w.n ∧ t.p.n = s.p.n ∧ t.c.n = s.c.n) ∧ Below W.heap.size W w') (hn1 : r.wn ≤ 4000 ∧ r.pn ≤ 1000 ∧ r.cn ≤ 100000 ∧ (∀ j, j < 3 → (r.d.F j).length ≤ 4000000) ∧ ∀ j, j < 3 → (r.G j).length ≤ 4000000) (hn0 : s.w.n ≤ 4000 ∧ s.p.n ≤ 1000 ∧ s.c.n ≤ 100000 ∧ ∀ j, j < 3 → (d.F j).length ≤ 4000000) (hf : fewL s (fun _ => u) 1 = true) (hz : Cl.Sz w) (hp : Hp w w.heap.size s d) (l3 : Ls.L3 w w.heap.size u G) : Calls Tryz.prog 3 #[(.agg #[.slice s.w.a s.w.n s.w.c, .slice s.p.a s.p.n s.p.c, .slice (s.u 0).a (s.u 0).n (s.u 0).c, .slice (s.u 1).a (s.u 1).n (s.u 1).c, .slice (s.u 2).a (s.u 2).n (s.u 2).c, .slice s.c.a s.c.n s.c.c]), (.agg #[.slice (u 0).a (u 0).n (u 0).c, .slice (u 1).a (u 1).n (u 1).c, .slice (u 2).a (u 2).n (u 2).c]), .agg #[.bool us, .bool o, .bool e, .int .i64 N, .int .i64 b, .int .i64 m]] w fun e w' => e = .returned (.bool true) ∧ Below w.heap.size w w' := by
  have HZ := Lib.hid hz
  have hz0 := hz.pos
  have HP := Lib.hid hp
  have HL := Lib.hid l3
  have C1 := Lib.hid c1
  have C2 := Lib.hid c2
  have C3 := Lib.hid c3
  have C4 := Lib.hid c4
  have C5 := Lib.hid c5
  have HN1 := Lib.hid hn1
  have HN0 := Lib.hid hn0
  have HF := Lib.hid hf
  have g1 : (r.a == r.a) = true := by simp
  have g2 : (r.er == r.er) = true := by simp
  obtain ⟨eb, heb⟩ : ∃ eb, eb = (r2.er == 0) := ⟨_, rfl⟩
  rw [← heb] at hrb
  have g4 : (r2.er == 0) = eb := heb.symm
  clear heb hn1 hn0 hf c1 c2 c3 c4 c5 hz hp l3
  go_enter Tryz.func3, Tryz.ntmps3
  go_wp2_with fail
  obtain ⟨W0, hW0⟩ : ∃ W0, W0 = (w.alloc (.cells #[.slice s.w.a s.w.n s.w.c, .slice s.p.a s.p.n s.p.c, .slice (s.u 0).a (s.u 0).n (s.u 0).c, .slice (s.u 1).a (s.u 1).n (s.u 1).c, .slice (s.u 2).a (s.u 2).n (s.u 2).c, .slice s.c.a s.c.n s.c.c] 28)).alloc (.cells #[.slice (u 0).a (u 0).n (u 0).c, .slice (u 1).a (u 1).n (u 1).c, .slice (u 2).a (u 2).n (u 2).c] 25) := ⟨_, rfl⟩
  obtain ⟨W1, hW1⟩ : ∃ W1, W1 = W0.alloc (.cells #[.bool us, .bool o, .bool e, .int .i64 N, .int .i64 b, .int .i64 m] 30) := ⟨_, rfl⟩
  have X1 : Hid (X6 W1 (w.heap.size + 2) us o e N b m) := Lib.hid (x6_three (s := s) (u := u) (w := w) (by rw [hW1, hW0]))
  have L0 := lw_start HP.out HL.out hW0
  rw [← hW0, ← hW1]
  have L1 : Hid (Lw w W1 s d u G) := Lib.hid (by rw [hW1]; exact L0.next ((Below.refl _ _).alloc (Nat.le_refl _) _))
  clear hW0 hW1 L0
  refine (Al.awake_any W1 (HZ.out.over L1.out.bel hz0)).mono ?_
  rintro e9 w1 ⟨rfl, hb1⟩
  have L2 := Lib.hid (L1.out.next hb1)
  have X2 := Lib.hid (X1.out.next hb1)
  clear hb1 L1 X1
  have q0 := L2.out.hb.c0
  have q1 := L2.out.hb.c1
  have q2 := L2.out.hb.c2
  have q3 := L2.out.hb.c3
  have q4 := L2.out.hb.c4
  have q5 := L2.out.hb.c5
  have ql := L2.out.hb.lt
  have p0 := L2.out.cb.cell 0 (by decide)
  have p1 := L2.out.cb.cell 1 (by decide)
  have p2 := L2.out.cb.cell 2 (by decide)
  have pl := L2.out.cb.lt
  go_wp2_with fail
  have b2 := (Below.refl w1.heap.size w1).alloc (Nat.le_refl _) (.cells #[.slice (u 0).a (u 0).n (u 0).c, .slice (u 1).a (u 1).n (u 1).c, .slice (u 2).a (u 2).n (u 2).c] 25)
  refine (few8_any s (some ⟨w1.heap.size, 0, none⟩) 1 1 (fun _ => u) (fun _ => G) (w1.alloc (.cells #[.slice (u 0).a (u 0).n (u 0).c, .slice (u 1).a (u 1).n (u 1).c, .slice (u 2).a (u 2).n (u 2).c] 25)) (by omega) (lrow_of (own_one w1 u) (by simp) (fun _ _ => L2.out.l3.next b2))).mono ?_
  rw [HF.out]
  rintro e9 w2 ⟨rfl, hb2⟩
  have L3 := Lib.hid ((L2.out.next b2).next hb2)
  have X3 := Lib.hid ((X2.out.next b2).next hb2)
  clear b2 hb2 L2 X2
  clear q0 q1 q2 q3 q4 q5 ql p0 p1 p2 pl
  have q0 := L3.out.hb.c0
  have q1 := L3.out.hb.c1
  have q2 := L3.out.hb.c2
  have q3 := L3.out.hb.c3
  have q4 := L3.out.hb.c4
  have q5 := L3.out.hb.c5
  have ql := L3.out.hb.lt
  go_wp2_with fail
  refine (C5.out w2 L3.out).mono ?_
  rintro e9 w4 ⟨t0, rfl, hp0, hl0, hb0⟩
  have LN0 := Lib.hid hl0
  clear hl0
  obtain ⟨v4, hv4⟩ : ∃ W, W = w4.alloc (.cells #[.slice t0.w.a t0.w.n t0.w.c, .slice t0.p.a t0.p.n t0.p.c, .slice (t0.u 0).a (t0.u 0).n (t0.u 0).c, .slice (t0.u 1).a (t0.u 1).n (t0.u 1).c, .slice (t0.u 2).a (t0.u 2).n (t0.u 2).c, .slice t0.c.a t0.c.n t0.c.c] 28) := ⟨_, rfl⟩
  obtain ⟨b0, hbb⟩ : ∃ b, b = w4.heap.size := ⟨_, rfl⟩
  have bA : Below w4.heap.size w4 v4 := by rw [hv4]; exact (Below.refl _ _).alloc (Nat.le_refl _) _
  have bN : Below w2.heap.size w2 v4 := hb0.trans (bA.mono hb0.size)
  have B0_4 := Lib.hid (bx_new hv4 hbb hp0)
  have L4 := Lib.hid (L3.out.next bN)
  have X4 := Lib.hid (X3.out.next bN)
  go_upto_region 6 with fail
  rw [← hv4, ← hbb]
  clear hp0 hb0 hv4 hbb bA bN L3 X3
  clear q0 q1 q2 q3 q4 q5 ql
  have q0 := L4.out.hb.c0
  have q1 := L4.out.hb.c1
  have q2 := L4.out.hb.c2
  have q3 := L4.out.hb.c3
  have q4 := L4.out.hb.c4
  have q5 := L4.out.hb.c5
  have ql := L4.out.hb.lt
  have p0 := L4.out.cb.cell 0 (by decide)
  have p1 := L4.out.cb.cell 1 (by decide)
  have p2 := L4.out.cb.cell 2 (by decide)
  have pl := L4.out.cb.lt
  have x0 := X4.out.c0
  have x1 := X4.out.c1
  have x2 := X4.out.c2
  have x3 := X4.out.c3
  have x4 := X4.out.c4
  have x5 := X4.out.c5
  have xl := X4.out.lt
  go_wp2_with fail
  refine (C1.out v4 L4.out).mono ?_
  rintro e9 w5 ⟨t1, v1, rfl, hpT, hvT, hlT, hbT⟩
  have LN1 := Lib.hid hlT
  clear hlT
  obtain ⟨WA, hWA⟩ : ∃ W, W = w5.alloc (.cells #[.slice t1.w.a t1.w.n t1.w.c, .slice t1.p.a t1.p.n t1.p.c, .slice (t1.u 0).a (t1.u 0).n (t1.u 0).c, .slice (t1.u 1).a (t1.u 1).n (t1.u 1).c, .slice (t1.u 2).a (t1.u 2).n (t1.u 2).c, .slice t1.c.a t1.c.n t1.c.c] 28) := ⟨_, rfl⟩
  obtain ⟨WB, hWB⟩ : ∃ W, W = WA.alloc (.cells #[.slice (v1 0).a (v1 0).n (v1 0).c, .slice (v1 1).a (v1 1).n (v1 1).c, .slice (v1 2).a (v1 2).n (v1 2).c] 25) := ⟨_, rfl⟩
  obtain ⟨b1, hb1⟩ : ∃ b, b = w5.heap.size := ⟨_, rfl⟩
  obtain ⟨c1, hb2⟩ : ∃ b, b = WA.heap.size := ⟨_, rfl⟩
  have bA : Below w5.heap.size w5 WA := by rw [hWA]; exact (Below.refl _ _).alloc (Nat.le_refl _) _
  have bB : Below WA.heap.size WA WB := by rw [hWB]; exact (Below.refl _ _).alloc (Nat.le_refl _) _
  have bN : Below v4.heap.size v4 WB := (hbT.trans (bA.mono hbT.size)).trans (bB.mono (by have := hbT.size; have := bA.size; omega))
  have B1_5 := Lib.hid ((bx_new hWA hb1 hpT).next bB)
  have C1_5 := Lib.hid (cx_new hWB hb2 ((hvT.next bA)))
  have L5 := Lib.hid (L4.out.next bN)
  have X5 := Lib.hid (X4.out.next bN)
  have B0_5 := Lib.hid (B0_4.out.next bN)
  go_upto_region 7 with fail
  rw [show w5.heap.size + 1 = WA.heap.size by rw [hWA]; simp]
  rw [← hWA, ← hWB, ← hb1, ← hb2]
  clear hpT hvT hbT hWA hWB hb1 hb2 bA bB bN L4 X4 B0_4
  clear q0 q1 q2 q3 q4 q5 ql p0 p1 p2 pl x0 x1 x2 x3 x4 x5 xl
  obtain ⟨v5, hW9⟩ : ∃ W, W = WB := ⟨_, rfl⟩
  rw [← hW9]
  rw [← hW9] at B1_5 C1_5 L5 X5 B0_5
  clear hW9
  have q0 := L5.out.hb.c0
  have q1 := L5.out.hb.c1
  have q2 := L5.out.hb.c2
  have q3 := L5.out.hb.c3
  have q4 := L5.out.hb.c4
  have q5 := L5.out.hb.c5
  have ql := L5.out.hb.lt
  have p0 := L5.out.cb.cell 0 (by decide)
  have p1 := L5.out.cb.cell 1 (by decide)
  have p2 := L5.out.cb.cell 2 (by decide)
  have pl := L5.out.cb.lt
  have x0 := X5.out.c0
  have x1 := X5.out.c1
  have x2 := X5.out.c2
  have x3 := X5.out.c3
  have x4 := X5.out.c4
  have x5 := X5.out.c5
  have xl := X5.out.lt
  go_wp2_with fail
  refine (C2.out v5 L5.out).mono ?_
  rintro e9 w6 ⟨t2, v2, rfl, hpT, hvT, hlT, hbT⟩
  have LN2 := Lib.hid hlT
  clear hlT
  obtain ⟨WA, hWA⟩ : ∃ W, W = w6.alloc (.cells #[.slice t2.w.a t2.w.n t2.w.c, .slice t2.p.a t2.p.n t2.p.c, .slice (t2.u 0).a (t2.u 0).n (t2.u 0).c, .slice (t2.u 1).a (t2.u 1).n (t2.u 1).c, .slice (t2.u 2).a (t2.u 2).n (t2.u 2).c, .slice t2.c.a t2.c.n t2.c.c] 28) := ⟨_, rfl⟩
  obtain ⟨WB, hWB⟩ : ∃ W, W = WA.alloc (.cells #[.slice (v2 0).a (v2 0).n (v2 0).c, .slice (v2 1).a (v2 1).n (v2 1).c, .slice (v2 2).a (v2 2).n (v2 2).c] 25) := ⟨_, rfl⟩
  obtain ⟨b2, hb1⟩ : ∃ b, b = w6.heap.size := ⟨_, rfl⟩
  obtain ⟨c2, hb2⟩ : ∃ b, b = WA.heap.size := ⟨_, rfl⟩
  have bA : Below w6.heap.size w6 WA := by rw [hWA]; exact (Below.refl _ _).alloc (Nat.le_refl _) _
  have bB : Below WA.heap.size WA WB := by rw [hWB]; exact (Below.refl _ _).alloc (Nat.le_refl _) _
  have bN : Below v5.heap.size v5 WB := (hbT.trans (bA.mono hbT.size)).trans (bB.mono (by have := hbT.size; have := bA.size; omega))
  have B2_6 := Lib.hid ((bx_new hWA hb1 hpT).next bB)
  have C2_6 := Lib.hid (cx_new hWB hb2 ((hvT.next bA)))
  have L6 := Lib.hid (L5.out.next bN)
  have X6 := Lib.hid (X5.out.next bN)
  have B0_6 := Lib.hid (B0_5.out.next bN)
  have B1_6 := Lib.hid (B1_5.out.next bN)
  have C1_6 := Lib.hid (C1_5.out.next bN)
  go_upto_region 8 with fail
  rw [show w6.heap.size + 1 = WA.heap.size by rw [hWA]; simp]
  rw [← hWA, ← hWB, ← hb1, ← hb2]
  clear hpT hvT hbT hWA hWB hb1 hb2 bA bB bN L5 X5 B0_5 B1_5 C1_5
  clear q0 q1 q2 q3 q4 q5 ql p0 p1 p2 pl x0 x1 x2 x3 x4 x5 xl
  obtain ⟨v6, hW9⟩ : ∃ W, W = WB := ⟨_, rfl⟩
  rw [← hW9]
  rw [← hW9] at B2_6 C2_6 L6 X6 B0_6 B1_6 C1_6
  clear hW9
  have q0 := B1_6.out.hb.c0
  have q1 := B1_6.out.hb.c1
  have q2 := B1_6.out.hb.c2
  have q3 := B1_6.out.hb.c3
  have q4 := B1_6.out.hb.c4
  have q5 := B1_6.out.hb.c5
  have ql := B1_6.out.hb.lt
  have k0 := B2_6.out.hb.c0
  have k1 := B2_6.out.hb.c1
  have k2 := B2_6.out.hb.c2
  have k3 := B2_6.out.hb.c3
  have k4 := B2_6.out.hb.c4
  have k5 := B2_6.out.hb.c5
  have kl := B2_6.out.hb.lt
  go_wp2_with fail
  refine (same_tk B1_6.out.hp B2_6.out.hp LN1.out LN2.out HN1.out.1 HN1.out.2.1 HN1.out.2.2.1 HN1.out.2.2.2.1).mono ?_
  rintro e9 v7 ⟨rfl, hb9⟩
  clear q0 q1 q2 q3 q4 q5 ql k0 k1 k2 k3 k4 k5 kl
  have L7 := Lib.hid (L6.out.next hb9)
  have X7 := Lib.hid (X6.out.next hb9)
  have B0_7 := Lib.hid (B0_6.out.next hb9)
  have B1_7 := Lib.hid (B1_6.out.next hb9)
  have C1_7 := Lib.hid (C1_6.out.next hb9)
  have B2_7 := Lib.hid (B2_6.out.next hb9)
  have C2_7 := Lib.hid (C2_6.out.next hb9)
  clear hb9 L6 X6 B0_6 B1_6 C1_6 B2_6 C2_6
  have q0 := C1_7.out.cb.cell 0 (by decide)
  have q1 := C1_7.out.cb.cell 1 (by decide)
  have q2 := C1_7.out.cb.cell 2 (by decide)
  have ql := C1_7.out.cb.lt
  have k0 := C2_7.out.cb.cell 0 (by decide)
  have k1 := C2_7.out.cb.cell 1 (by decide)
  have k2 := C2_7.out.cb.cell 2 (by decide)
  have kl := C2_7.out.cb.lt
  go_wp2_with fail
  refine (Ls.same_any v7.heap.size v7.heap.size v1 v2 r.G r.G v7 C1_7.out.l3 (Nat.le_refl _) C2_7.out.l3 (Nat.le_refl _) (fun j hj => by have h1 := C1_7.out.l3.len j hj; have h2 := HN1.out.2.2.2.2 j hj; omega) (fun j hj => by have h1 := C2_7.out.l3.len j hj; have h2 := HN1.out.2.2.2.2 j hj; omega)).mono ?_
  rw [show decide (Ls.sameUp r.G r.G 3) = true from decide_eq_true (fun _ _ => rfl)]
  rintro e9 v8 ⟨rfl, hb9⟩
  clear q0 q1 q2 ql k0 k1 k2 kl
  have L8 := Lib.hid (L7.out.next hb9)
  have X8 := Lib.hid (X7.out.next hb9)
  have B0_8 := Lib.hid (B0_7.out.next hb9)
  have B1_8 := Lib.hid (B1_7.out.next hb9)
  have C1_8 := Lib.hid (C1_7.out.next hb9)
  have B2_8 := Lib.hid (B2_7.out.next hb9)
  have C2_8 := Lib.hid (C2_7.out.next hb9)
  clear hb9 L7 X7 B0_7 B1_7 C1_7 B2_7 C2_7
  have q0 := L8.out.hb.c0
  have q1 := L8.out.hb.c1
  have q2 := L8.out.hb.c2
  have q3 := L8.out.hb.c3
  have q4 := L8.out.hb.c4
  have q5 := L8.out.hb.c5
  have ql := L8.out.hb.lt
  have k0 := B0_8.out.hb.c0
  have k1 := B0_8.out.hb.c1
  have k2 := B0_8.out.hb.c2
  have k3 := B0_8.out.hb.c3
  have k4 := B0_8.out.hb.c4
  have k5 := B0_8.out.hb.c5
  have kl := B0_8.out.hb.lt
  go_wp2_with fail
  refine (same_tk L8.out.hp B0_8.out.hp ⟨rfl, rfl, rfl⟩ LN0.out HN0.out.1 HN0.out.2.1 HN0.out.2.2.1 HN0.out.2.2.2).mono ?_
  rintro e9 v9 ⟨rfl, hb9⟩
  clear q0 q1 q2 q3 q4 q5 ql k0 k1 k2 k3 k4 k5 kl
  have L9 := Lib.hid (L8.out.next hb9)
  have X9 := Lib.hid (X8.out.next hb9)
  have B0_9 := Lib.hid (B0_8.out.next hb9)
  have B1_9 := Lib.hid (B1_8.out.next hb9)
  have C1_9 := Lib.hid (C1_8.out.next hb9)
  have B2_9 := Lib.hid (B2_8.out.next hb9)
  have C2_9 := Lib.hid (C2_8.out.next hb9)
  clear hb9 L8 X8 B0_8 B1_8 C1_8 B2_8 C2_8
  have q0 := L9.out.hb.c0
  have q1 := L9.out.hb.c1
  have q2 := L9.out.hb.c2
  have q3 := L9.out.hb.c3
  have q4 := L9.out.hb.c4
  have q5 := L9.out.hb.c5
  have ql := L9.out.hb.lt
  have p0 := L9.out.cb.cell 0 (by decide)
  have p1 := L9.out.cb.cell 1 (by decide)
  have p2 := L9.out.cb.cell 2 (by decide)
  have pl := L9.out.cb.lt
  have x0 := X9.out.c0
  have x1 := X9.out.c1
  have x2 := X9.out.c2
  have x3 := X9.out.c3
  have x4 := X9.out.c4
  have x5 := X9.out.c5
  have xl := X9.out.lt
  go_wp2_with fail
  refine (C3.out v9 L9.out).mono ?_
  rintro e9 w10 ⟨t3, v3, rfl, hpT, hvT, hlT, hbT⟩
  have LN3 := Lib.hid hlT
  clear hlT
  obtain ⟨WA, hWA⟩ : ∃ W, W = w10.alloc (.cells #[.slice t3.w.a t3.w.n t3.w.c, .slice t3.p.a t3.p.n t3.p.c, .slice (t3.u 0).a (t3.u 0).n (t3.u 0).c, .slice (t3.u 1).a (t3.u 1).n (t3.u 1).c, .slice (t3.u 2).a (t3.u 2).n (t3.u 2).c, .slice t3.c.a t3.c.n t3.c.c] 28) := ⟨_, rfl⟩
  obtain ⟨WB, hWB⟩ : ∃ W, W = WA.alloc (.cells #[.slice (v3 0).a (v3 0).n (v3 0).c, .slice (v3 1).a (v3 1).n (v3 1).c, .slice (v3 2).a (v3 2).n (v3 2).c] 25) := ⟨_, rfl⟩
  obtain ⟨b3, hb1⟩ : ∃ b, b = w10.heap.size := ⟨_, rfl⟩
  obtain ⟨c3, hb2⟩ : ∃ b, b = WA.heap.size := ⟨_, rfl⟩
  have bA : Below w10.heap.size w10 WA := by rw [hWA]; exact (Below.refl _ _).alloc (Nat.le_refl _) _
  have bB : Below WA.heap.size WA WB := by rw [hWB]; exact (Below.refl _ _).alloc (Nat.le_refl _) _
  have bN : Below v9.heap.size v9 WB := (hbT.trans (bA.mono hbT.size)).trans (bB.mono (by have := hbT.size; have := bA.size; omega))
  have BT10 := Lib.hid ((bx_new hWA hb1 hpT).next bB)
  have CT10 := Lib.hid (cx_new hWB hb2 ((hvT.next bA)))
  have L10 := Lib.hid (L9.out.next bN)
  have X10 := Lib.hid (X9.out.next bN)
  go_upto_region 12 with fail
  rw [show w10.heap.size + 1 = WA.heap.size by rw [hWA]; simp]
  rw [← hWA, ← hWB, ← hb1, ← hb2]
  clear hpT hvT hbT hWA hWB hb1 hb2 bA bB bN L9 X9
  clear q0 q1 q2 q3 q4 q5 ql p0 p1 p2 pl x0 x1 x2 x3 x4 x5 xl
  obtain ⟨v10, hW9⟩ : ∃ W, W = WB := ⟨_, rfl⟩
  rw [← hW9]
  rw [← hW9] at BT10 CT10 L10 X10
  clear hW9
  clear BT10 CT10 B0_9 B1_9 C1_9 B2_9 C2_9
  have HRB := Lib.hid hrb
  have q0 := L10.out.hb.c0
  have q1 := L10.out.hb.c1
  have q2 := L10.out.hb.c2
  have q3 := L10.out.hb.c3
  have q4 := L10.out.hb.c4
  have q5 := L10.out.hb.c5
  have ql := L10.out.hb.lt
  have p0 := L10.out.cb.cell 0 (by decide)
  have p1 := L10.out.cb.cell 1 (by decide)
  have p2 := L10.out.cb.cell 2 (by decide)
  have pl := L10.out.cb.lt
  have x0 := X10.out.c0
  have x1 := X10.out.c1
  have x2 := X10.out.c2
  have x3 := X10.out.c3
  have x4 := X10.out.c4
  have x5 := X10.out.c5
  have xl := X10.out.lt
  go_wp2_with fail
  refine (C4.out v10 L10.out).mono ?_
  rintro e9 v11 ⟨rfl, hb9⟩
  have L11 := Lib.hid (L10.out.next hb9)
  clear hb9
  go_wp2
  go_ret
  exact ⟨rfl, L11.out.bel⟩
end
theorem walk (s : Hs) (d : Hd_) (u : Nat → Ls.Sl) (G : Nat → List Int) (us o e : Bool) (N b m : Int) (w : World) (hz : Cl.Sz w) (hp : Hp w w.heap.size s d) (hv : Fit64 d.ws) (_ : s.p.n ≤ s.p.c) (l3 : Ls.L3 w w.heap.size u G) (_ : (Lit.int .i64 N).wf = true) (_ : (Lit.int .i64 b).wf = true) (_ : (Lit.int .i64 m).wf = true) :
    Calls Tryz.prog 3 #[(.agg #[.slice s.w.a s.w.n s.w.c, .slice s.p.a s.p.n s.p.c, .slice (s.u 0).a (s.u 0).n (s.u 0).c, .slice (s.u 1).a (s.u 1).n (s.u 1).c, .slice (s.u 2).a (s.u 2).n (s.u 2).c, .slice s.c.a s.c.n s.c.c]), (.agg #[.slice (u 0).a (u 0).n (u 0).c, .slice (u 1).a (u 1).n (u 1).c, .slice (u 2).a (u 2).n (u 2).c]), .agg #[.bool us, .bool o, .bool e, .int .i64 N, .int .i64 b, .int .i64 m]] w fun e w' => e = .returned (.bool true) ∧ Below w.heap.size w w' := by
  cases hf : fewL s (fun _ => u) 1
  · exact walk_few s d u G us o e N b m w hf hz hp l3
  · have hz0 := hz.pos
    have hl := lite_few hf hp l3 hv
    have hfT := hl.fineT (by decide) hp.free.len l3.len
    have hlen := takes_len s d G us o e N b m (w := w) (hp := hp) (l3 := l3) hfT
    exact core s d u G us o e N b m w (tkR s d G us o e N b m) (tkR s d G true false false N 0 0) (roomB s d G N) (by unfold roomB; cases ((tkR s d G true false false N 0 0).er == 0) <;> rfl)
      (take_tko hz hz0 hfT us o e N b m) (fun W h => Rp.rtake_any s u d G us o e N b m W h.hp h.l3 hfT) (fun W h => Rp.rtake_any s u d G true false false N 0 0 W h.hp h.l3 hfT) (room_tko hz hz0 hfT N)
      (fun W h => (rown9_any s d W h.hp hfT.fine.wn (by have := hfT.fine.pn; omega) (by have := hfT.fine.cn; omega) (fun j hj => Nat.le_trans (hfT.lu j hj) (by decide))).mono fun _ _ ho => by
        obtain ⟨t, h1, _, h3, h4, _, _, _, h8⟩ := ho
        exact ⟨t, h1, h3, ⟨h4.1, h4.2.1, h4.2.2.2⟩, h8⟩)
      hlen ⟨hfT.fine.wn, by have := hfT.fine.pn; omega, hfT.fine.cn, fun j hj => by have := hp.free.len j hj; have := hfT.lu j hj; omega⟩ hf hz hp l3
-- the frame (hpframe.py)
set_option maxRecDepth 100000 in
theorem lifted (os : Os) (started : os.Started) (H : Type) (enc : TypeId × Value → H) :
    ReturnsInHanded {} Tryz.checked os 3 .any (fun w args => (Rows.allocTakesSpec.pre enc Tryz.prog Tryz.f3 [] false w args ∧ laidMetH Tryz.prog laidSizes w) ∧ sizedMet enc Tryz.prog Tryz.f3 (OpenSpec.ofChange Rows.allocTakesSpec) false w args)
      (Rows.allocTakesSpec.post enc Tryz.prog Tryz.f3 false true false false) := by
  refine returnsInHanded_of_change_and (C := Tryz.checked) (X := fun w _ => laidMetH Tryz.prog laidSizes w) (fun _ _ _ hh h => h.of_heap hh) own started (by kernel_rfl) Tryz.func3
    (ChangeSpec.witness_shaped (enc := enc) (C := Tryz.checked) (os := os) (X := fun w _ => laidMetH Tryz.prog laidSizes w) false (World.doorLaid Tryz.prog 400 os) #[.agg #[.slice none 0 0, .slice none 0 0, .slice none 0 0, .slice none 0 0, .slice none 0 0, .slice none 0 0], .agg #[.slice none 0 0, .slice none 0 0, .slice none 0 0], .agg #[.bool false, .bool false, .bool false, .int .i64 0, .int .i64 0, .int .i64 0]] 8 rfl (World.shaped_of_RefB (by kernel_rfl) (by kernel_rfl)) (by kernel_rfl) (by kernel_rfl) (by kernel_rfl) (door_met os _)) ?_
  intro W base args ds gs before hval0 hW _ _ hL _
  have hval : ∀ (j : Nat) t v, Tryz.f3.params[j]? = some t → args[j]? = some v → Value.okWide Tryz.prog W .any base t v := hval0
  have hW' := hW
  obtain ⟨p, q, hA0, hV, rfl, hfz, hnd⟩ := hW
  have hA : DataW.TrodAll enc Tryz.prog W 0 (fun _ => true) true Tryz.f3.params.toList args.toList ds p := hA0
  rw [Tryz.params3] at hA hval
  obtain ⟨v0, vs0, d0, ds0, p0, q0, hargs, rfl, rfl, h0, r0⟩ := trodAll_cons hA
  obtain ⟨v1, vs1, d1, ds1, p1, q1, rfl, rfl, rfl, h1, r1⟩ := trodAll_cons r0
  obtain ⟨v2, vs2, d2, ds2, p2, q2, rfl, rfl, rfl, h2, r2⟩ := trodAll_cons r1
  obtain ⟨rfl, rfl, rfl⟩ := trodAll_nil r2
  obtain rfl : args = #[v0, v1, v2] := by cases args; simp_all
  obtain ⟨rfl, rfl⟩ := trodVars_none hV
  have k0 := h0
  have lt0 : ∀ x ∈ p0, x.block < W.heap.size := by obtain ⟨m, hm⟩ := k0; exact DataW.trod_lt m _ _ _ hm
  obtain ⟨s0, z0, rfl, w0, f0, b0⟩ := heap_of8 (hval 0 28 v0 rfl rfl) h0
  have k1 := h1
  have lt1 : ∀ x ∈ p1, x.block < W.heap.size := by obtain ⟨m, hm⟩ := k1; exact DataW.trod_lt m _ _ _ hm
  obtain ⟨u1, z1, rfl, w1, b1⟩ := lists_of (hval 1 25 v1 rfl rfl) h1
  obtain ⟨u2, o2, e2, n2, b2, m2, rfl, rfl, rfl, x2, y2, z2⟩ := six_open Tryz.underlying30 cellsHead (by kernel_rfl) rfl Tryz.underlying4 Tryz.underlying3 (hval 2 30 v2 rfl rfl) h2
  clear hA0 hval0
  refine (walk s0 z0 u1 z1 u2 o2 e2 n2 b2 m2 W (of_laid hL) w0 f0 b0 w1 x2 y2 z2).mono fun e W' ⟨he, bel⟩ => ?_
  subst he
  exact ⟨_, rfl, _, _, _, [], _, [], hW', trodAll_mk1 (shut_bool Tryz.underlying4 _), (trodAll_cons_mk (Below.trod laidOut (by kernel_rfl) (of_decide_eq_true (by kernel_rfl)) k0 bel lt0) (trodAll_cons_mk (Below.trod laidOut (by kernel_rfl) (of_decide_eq_true (by kernel_rfl)) k1 bel lt1) (trodAll_cons_mk (six_shut Tryz.underlying30 cellsHead (by kernel_rfl) rfl Tryz.underlying4 Tryz.underlying3 _ _ _ _ _ _ x2 y2 z2) trodAll_mk0))), rfl, bel.frame _, fun h => by cases h⟩

theorem over : Rows.AllocTakesSaid :=
  OpenClaim.holds_of_wide 3 Tryz.f3 rfl rfl rfl rfl rfl rfl rfl ⟨rfl, rfl, rfl, rfl, rfl⟩ rfl rfl rfl rfl rfl (by kernel_rfl) Tryz.func3 (by kernel_rfl)
    (of_decide_eq_true (by kernel_rfl)) (by unfold Func.isWrapper; first | (rw [if_pos (by decide +kernel)]; kernel_rfl) | (rw [if_neg (by decide +kernel)]; exact ⟨rfl, rfl⟩))
    (fun os started H enc _ => lifted os started H enc)

/-- The statement: the card. -/
theorem proved : Rows.AllocTakesCardSaid :=
  Claim7.holds_tied_plain_at .later [] [.data] true Rows.allocTakesCard.stood.harness false
    over (fun _ h => by cases h) (by kernel_rfl) (fun _ h => by cases h) allocTakes_row_tie rfl ⟨rfl, rfl⟩ (by kernel_rfl) rfl
    (fun f fn hf hfn => by
      obtain rfl : f = 3 := Option.some.inj ((show Tryz.prog.funcNamed "ragpicker/ragpickerlaw08.AllocTakes" = some 3 by kernel_rfl).symm.trans hf) |>.symm
      obtain rfl : fn = Tryz.f3 := (Option.some.inj (Tryz.func3.symm.trans hfn)).symm
      exact ⟨by kernel_rfl, fun j t ht => by
        rw [Tryz.params3] at ht
        have hm : t ∈ [28, 25, 30] := by simpa using Array.mem_of_getElem? ht
        have hall : ([28, 25, 30].all fun u => !Tryz.prog.wantsStandIn u) = true := by kernel_rfl
        exact (show Tryz.prog.wantsStandIn t = false by simpa using List.all_eq_true.1 hall t hm)⟩)
    (by kernel_rfl)
#print axioms proved
end Go.Proofs.YtdmclfolooiccaaGreatDoor.AllocTakes
