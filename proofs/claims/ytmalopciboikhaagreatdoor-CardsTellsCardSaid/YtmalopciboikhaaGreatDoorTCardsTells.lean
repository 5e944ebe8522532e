/-
  CardsTells: any address has the card, which is dirtied, and any card is cleaned, and has the objects, as the document says, or it is told why not: for every heap of at most 9 pages and 130 words; the table of sizes is tied to the program's text by the card.
-/
import Derived.Test.YtmalopciboikhaaGreatDoorHpTH
import Derived.Test.YtmalopciboikhaaGreatDoorHpTI
namespace Go.Proofs.YtmalopciboikhaaGreatDoor.CardsTells
open Go.Proofs.YtmalopciboikhaaGreatDoor Go.Proofs.YtmalopciboikhaaGreatDoor.Ck
open Go.ChangeShapes Go.WideShapes Go.ChangeAt Go.RowKit
set_option maxRecDepth 100000

theorem same_rz {W : World} {t2 t3 : Hs} {r : Rz} (h2 : Hp W W.heap.size t2 r.d) (h3 : Hp W W.heap.size t3 r.d) (l2 : t2.w.n = r.wn ∧ t2.p.n = r.pn ∧ t2.c.n = r.cn) (l3 : t3.w.n = r.wn ∧ t3.p.n = r.pn ∧ t3.c.n = r.cn) (hw : r.wn ≤ 4000) (hpn : r.pn ≤ 1000) (hc : r.cn ≤ 100000) (hF : ∀ j, j < 3 → (r.d.F j).length ≤ 4000000) :
    Calls Tryz.prog 11 #[(.agg #[.slice t2.w.a t2.w.n t2.w.c, .slice t2.p.a t2.p.n t2.p.c, .slice (t2.u 0).a (t2.u 0).n (t2.u 0).c, .slice (t2.u 1).a (t2.u 1).n (t2.u 1).c, .slice (t2.u 2).a (t2.u 2).n (t2.u 2).c, .slice t2.c.a t2.c.n t2.c.c]), (.agg #[.slice t3.w.a t3.w.n t3.w.c, .slice t3.p.a t3.p.n t3.p.c, .slice (t3.u 0).a (t3.u 0).n (t3.u 0).c, .slice (t3.u 1).a (t3.u 1).n (t3.u 1).c, .slice (t3.u 2).a (t3.u 2).n (t3.u 2).c, .slice t3.c.a t3.c.n t3.c.c])] W fun e w' => e = .returned (.bool true) ∧ Below W.heap.size W w' := by
  have k2 : ∀ j, j < 3 → (t2.u j).n ≤ 4000000 := fun j hj => by have h1 := h2.free.len j hj; have h4 := hF j hj; omega
  have k3 : ∀ j, j < 3 → (t3.u j).n ≤ 4000000 := fun j hj => by have h1 := h3.free.len j hj; have h4 := hF j hj; omega
  obtain ⟨⟨A1, N1, C1⟩, ⟨A2, N2, C2⟩, v, ⟨A3, N3, C3⟩⟩ := t3
  obtain ⟨x1, x2, x3⟩ := l3
  obtain ⟨y1, y2, y3⟩ := l2
  dsimp only at x1 x2 x3
  subst x1 x2 x3
  rw [← y1, ← y2, ← y3] at h3 ⊢
  exact rsame_yes t2 r.d r.d A1 A2 A3 C1 C2 C3 v W h2 h3 rfl (fun _ _ => rfl) (fun _ _ => rfl) (fun _ _ => rfl) (by omega) (by omega) (by omega) k2 k3
section
variable (s : Hs) (d : Hd_) (a k : Int) (w : World)
set_option maxHeartbeats 1000000 in
theorem walk_few (hf : fewH s = false) (hz : Cl.Sz w) (hp : Hp w w.heap.size s d) : Calls Tryz.prog 5 #[(.agg #[.slice s.w.a s.w.n s.w.c, .slice s.p.a s.p.n s.p.c, .slice (s.u 0).a (s.u 0).n (s.u 0).c, .slice (s.u 1).a (s.u 1).n (s.u 1).c, .slice (s.u 2).a (s.u 2).n (s.u 2).c, .slice s.c.a s.c.n s.c.c]), .int .i64 a, .int .i64 k] w fun e w' => e = .returned (.bool true) ∧ Below w.heap.size w w' := by
  have HZ := Lib.hid hz
  have hz0 := hz.pos
  have HP := Lib.hid hp
  have HF := Lib.hid hf
  clear hz hp hf
  go_enter Tryz.func5, Tryz.ntmps5
  go_wp2_with fail
  obtain ⟨W1, hW1⟩ : ∃ W1, W1 = w.alloc (.cells #[.slice s.w.a s.w.n s.w.c, .slice s.p.a s.p.n s.p.c, .slice (s.u 0).a (s.u 0).n (s.u 0).c, .slice (s.u 1).a (s.u 1).n (s.u 1).c, .slice (s.u 2).a (s.u 2).n (s.u 2).c, .slice s.c.a s.c.n s.c.c] 28) := ⟨_, rfl⟩
  have L1 := Lib.hid (lx_start (A := none) (n := 0) (U := (fun _ => Ls.noSl)) (F := noCaches) HP.out (fun h => absurd h (by omega)) hW1)
  rw [← hW1]
  clear hW1
  refine (Ck.awake_any W1 (HZ.out.over L1.out.bel hz0)).mono ?_
  rintro e9 w1 ⟨rfl, hb1⟩
  have L2 := Lib.hid (L1.out.next hb1)
  clear hb1 L1
  have q0 := (L2.out.at (w.heap.size) (s) (d) (by simp)).c0
  have q1 := (L2.out.at (w.heap.size) (s) (d) (by simp)).c1
  have q2 := (L2.out.at (w.heap.size) (s) (d) (by simp)).c2
  have q3 := (L2.out.at (w.heap.size) (s) (d) (by simp)).c3
  have q4 := (L2.out.at (w.heap.size) (s) (d) (by simp)).c4
  have q5 := (L2.out.at (w.heap.size) (s) (d) (by simp)).c5
  have ql := (L2.out.at (w.heap.size) (s) (d) (by simp)).lt
  go_wp2_with fail
  refine (rfew_any s w1).mono ?_
  rw [HF.out]
  rintro e9 w2 ⟨rfl, hb2⟩
  have L3 := Lib.hid (L2.out.next hb2)
  clear hb2 L2
  clear q0 q1 q2 q3 q4 q5 ql
  go_wp2
  go_ret
  exact ⟨rfl, L3.out.bel⟩
set_option maxHeartbeats 8000000 in
theorem core (P1 P2 P3 : Hs → Prop) (n1 er eD eC av : Int) (bv bI : Bool) (xs : List Int) (hxl : xs.length ≤ 8) (dD dC : Hd_) (hf : fewH s = true) (hW : ∀ W, Lx w W none 0 (fun _ => Ls.noSl) noCaches [(w.heap.size, s, d)] → Calls Tryz.prog 8 #[(.agg #[.slice s.w.a s.w.n s.w.c, .slice s.p.a s.p.n s.p.c, .slice (s.u 0).a (s.u 0).n (s.u 0).c, .slice (s.u 1).a (s.u 1).n (s.u 1).c, .slice (s.u 2).a (s.u 2).n (s.u 2).c, .slice s.c.a s.c.n s.c.c])] W fun e w' => ∃ t : Hs, e = .returned (.agg #[.slice t.w.a t.w.n t.w.c, .slice t.p.a t.p.n t.p.c, .slice (t.u 0).a (t.u 0).n (t.u 0).c, .slice (t.u 1).a (t.u 1).n (t.u 1).c, .slice (t.u 2).a (t.u 2).n (t.u 2).c, .slice t.c.a t.c.n t.c.c]) ∧ Hp w' w'.heap.size t d ∧ P1 t ∧ Below W.heap.size W w') (hO : ∀ W b1 t1, Lx w W none 0 (fun _ => Ls.noSl) noCaches [(b1, t1, d), (w.heap.size, s, d)] → Calls Tryz.prog 23 #[(.agg #[.slice s.w.a s.w.n s.w.c, .slice s.p.a s.p.n s.p.c, .slice (s.u 0).a (s.u 0).n (s.u 0).c, .slice (s.u 1).a (s.u 1).n (s.u 1).c, .slice (s.u 2).a (s.u 2).n (s.u 2).c, .slice s.c.a s.c.n s.c.c]), .int .i64 a] W fun e w' => e = .returned (.tuple #[.int .i64 n1, .int .i64 er]) ∧ Below W.heap.size W w') (hRO : ∀ W b1 t1, Lx w W none 0 (fun _ => Ls.noSl) noCaches [(b1, t1, d), (w.heap.size, s, d)] → Calls Tryz.prog 24 #[(.agg #[.slice s.w.a s.w.n s.w.c, .slice s.p.a s.p.n s.p.c, .slice (s.u 0).a (s.u 0).n (s.u 0).c, .slice (s.u 1).a (s.u 1).n (s.u 1).c, .slice (s.u 2).a (s.u 2).n (s.u 2).c, .slice s.c.a s.c.n s.c.c]), .int .i64 a] W fun e w' => e = .returned (.tuple #[.int .i64 n1, .int .i64 er]) ∧ Below W.heap.size W w') (hD : ∀ W b1 t1, Lx w W none 0 (fun _ => Ls.noSl) noCaches [(b1, t1, d), (w.heap.size, s, d)] → Calls Tryz.prog 25 #[(.agg #[.slice s.w.a s.w.n s.w.c, .slice s.p.a s.p.n s.p.c, .slice (s.u 0).a (s.u 0).n (s.u 0).c, .slice (s.u 1).a (s.u 1).n (s.u 1).c, .slice (s.u 2).a (s.u 2).n (s.u 2).c, .slice s.c.a s.c.n s.c.c]), .int .i64 a] W fun e w' => ∃ t : Hs, e = .returned (.tuple #[(.agg #[.slice t.w.a t.w.n t.w.c, .slice t.p.a t.p.n t.p.c, .slice (t.u 0).a (t.u 0).n (t.u 0).c, .slice (t.u 1).a (t.u 1).n (t.u 1).c, .slice (t.u 2).a (t.u 2).n (t.u 2).c, .slice t.c.a t.c.n t.c.c]), .int .i64 eD]) ∧ Hp w' w'.heap.size t dD ∧ P2 t ∧ Below W.heap.size W w') (hRD : ∀ W b1 t1 b2 t2, Lx w W none 0 (fun _ => Ls.noSl) noCaches [(b2, t2, dD), (b1, t1, d), (w.heap.size, s, d)] → Calls Tryz.prog 26 #[(.agg #[.slice s.w.a s.w.n s.w.c, .slice s.p.a s.p.n s.p.c, .slice (s.u 0).a (s.u 0).n (s.u 0).c, .slice (s.u 1).a (s.u 1).n (s.u 1).c, .slice (s.u 2).a (s.u 2).n (s.u 2).c, .slice s.c.a s.c.n s.c.c]), .int .i64 a] W fun e w' => ∃ t : Hs, e = .returned (.tuple #[(.agg #[.slice t.w.a t.w.n t.w.c, .slice t.p.a t.p.n t.p.c, .slice (t.u 0).a (t.u 0).n (t.u 0).c, .slice (t.u 1).a (t.u 1).n (t.u 1).c, .slice (t.u 2).a (t.u 2).n (t.u 2).c, .slice t.c.a t.c.n t.c.c]), .int .i64 eD]) ∧ Hp w' w'.heap.size t dD ∧ P2 t ∧ Below W.heap.size W w') (hS1 : ∀ W b1 t1 b2 t2 b3 t3, P2 t2 → P2 t3 → Lx w W none 0 (fun _ => Ls.noSl) noCaches [(b3, t3, dD), (b2, t2, dD), (b1, t1, d), (w.heap.size, s, d)] → Calls Tryz.prog 11 #[(.agg #[.slice t2.w.a t2.w.n t2.w.c, .slice t2.p.a t2.p.n t2.p.c, .slice (t2.u 0).a (t2.u 0).n (t2.u 0).c, .slice (t2.u 1).a (t2.u 1).n (t2.u 1).c, .slice (t2.u 2).a (t2.u 2).n (t2.u 2).c, .slice t2.c.a t2.c.n t2.c.c]), (.agg #[.slice t3.w.a t3.w.n t3.w.c, .slice t3.p.a t3.p.n t3.p.c, .slice (t3.u 0).a (t3.u 0).n (t3.u 0).c, .slice (t3.u 1).a (t3.u 1).n (t3.u 1).c, .slice (t3.u 2).a (t3.u 2).n (t3.u 2).c, .slice t3.c.a t3.c.n t3.c.c])] W fun e w' => e = .returned (.bool true) ∧ Below W.heap.size W w') (hC : ∀ W b1 t1 b2 t2 b3 t3, Lx w W none 0 (fun _ => Ls.noSl) noCaches [(b3, t3, dD), (b2, t2, dD), (b1, t1, d), (w.heap.size, s, d)] → Calls Tryz.prog 27 #[(.agg #[.slice s.w.a s.w.n s.w.c, .slice s.p.a s.p.n s.p.c, .slice (s.u 0).a (s.u 0).n (s.u 0).c, .slice (s.u 1).a (s.u 1).n (s.u 1).c, .slice (s.u 2).a (s.u 2).n (s.u 2).c, .slice s.c.a s.c.n s.c.c]), .int .i64 k] W fun e w' => ∃ t : Hs, e = .returned (.tuple #[(.agg #[.slice t.w.a t.w.n t.w.c, .slice t.p.a t.p.n t.p.c, .slice (t.u 0).a (t.u 0).n (t.u 0).c, .slice (t.u 1).a (t.u 1).n (t.u 1).c, .slice (t.u 2).a (t.u 2).n (t.u 2).c, .slice t.c.a t.c.n t.c.c]), .int .i64 eC]) ∧ Hp w' w'.heap.size t dC ∧ P3 t ∧ Below W.heap.size W w') (hRC : ∀ W b1 t1 b2 t2 b3 t3 b4 t4, Lx w W none 0 (fun _ => Ls.noSl) noCaches [(b4, t4, dC), (b3, t3, dD), (b2, t2, dD), (b1, t1, d), (w.heap.size, s, d)] → Calls Tryz.prog 28 #[(.agg #[.slice s.w.a s.w.n s.w.c, .slice s.p.a s.p.n s.p.c, .slice (s.u 0).a (s.u 0).n (s.u 0).c, .slice (s.u 1).a (s.u 1).n (s.u 1).c, .slice (s.u 2).a (s.u 2).n (s.u 2).c, .slice s.c.a s.c.n s.c.c]), .int .i64 k] W fun e w' => ∃ t : Hs, e = .returned (.tuple #[(.agg #[.slice t.w.a t.w.n t.w.c, .slice t.p.a t.p.n t.p.c, .slice (t.u 0).a (t.u 0).n (t.u 0).c, .slice (t.u 1).a (t.u 1).n (t.u 1).c, .slice (t.u 2).a (t.u 2).n (t.u 2).c, .slice t.c.a t.c.n t.c.c]), .int .i64 eC]) ∧ Hp w' w'.heap.size t dC ∧ P3 t ∧ Below W.heap.size W w') (hS2 : ∀ W b1 t1 b2 t2 b3 t3 b4 t4 b5 t5, P3 t4 → P3 t5 → Lx w W none 0 (fun _ => Ls.noSl) noCaches [(b5, t5, dC), (b4, t4, dC), (b3, t3, dD), (b2, t2, dD), (b1, t1, d), (w.heap.size, s, d)] → Calls Tryz.prog 11 #[(.agg #[.slice t4.w.a t4.w.n t4.w.c, .slice t4.p.a t4.p.n t4.p.c, .slice (t4.u 0).a (t4.u 0).n (t4.u 0).c, .slice (t4.u 1).a (t4.u 1).n (t4.u 1).c, .slice (t4.u 2).a (t4.u 2).n (t4.u 2).c, .slice t4.c.a t4.c.n t4.c.c]), (.agg #[.slice t5.w.a t5.w.n t5.w.c, .slice t5.p.a t5.p.n t5.p.c, .slice (t5.u 0).a (t5.u 0).n (t5.u 0).c, .slice (t5.u 1).a (t5.u 1).n (t5.u 1).c, .slice (t5.u 2).a (t5.u 2).n (t5.u 2).c, .slice t5.c.a t5.c.n t5.c.c])] W fun e w' => e = .returned (.bool true) ∧ Below W.heap.size W w') (hN : ∀ W b1 t1 b2 t2 b3 t3 b4 t4 b5 t5, Lx w W none 0 (fun _ => Ls.noSl) noCaches [(b5, t5, dC), (b4, t4, dC), (b3, t3, dD), (b2, t2, dD), (b1, t1, d), (w.heap.size, s, d)] → Calls Tryz.prog 30 #[(.agg #[.slice s.w.a s.w.n s.w.c, .slice s.p.a s.p.n s.p.c, .slice (s.u 0).a (s.u 0).n (s.u 0).c, .slice (s.u 1).a (s.u 1).n (s.u 1).c, .slice (s.u 2).a (s.u 2).n (s.u 2).c, .slice s.c.a s.c.n s.c.c]), .int .i64 k] W (Ls.AllOut W xs)) (hRN : ∀ W b1 t1 b2 t2 b3 t3 b4 t4 b5 t5, Lx w W none 0 (fun _ => Ls.noSl) noCaches [(b5, t5, dC), (b4, t4, dC), (b3, t3, dD), (b2, t2, dD), (b1, t1, d), (w.heap.size, s, d)] → Calls Tryz.prog 31 #[(.agg #[.slice s.w.a s.w.n s.w.c, .slice s.p.a s.p.n s.p.c, .slice (s.u 0).a (s.u 0).n (s.u 0).c, .slice (s.u 1).a (s.u 1).n (s.u 1).c, .slice (s.u 2).a (s.u 2).n (s.u 2).c, .slice s.c.a s.c.n s.c.c]), .int .i64 k] W (Ls.AllOut W xs)) (hX : ∀ W b1 t1 b2 t2 b3 t3 b4 t4 b5 t5, Lx w W none 0 (fun _ => Ls.noSl) noCaches [(b5, t5, dC), (b4, t4, dC), (b3, t3, dD), (b2, t2, dD), (b1, t1, d), (w.heap.size, s, d)] → Calls Tryz.prog 32 #[(.agg #[.slice s.w.a s.w.n s.w.c, .slice s.p.a s.p.n s.p.c, .slice (s.u 0).a (s.u 0).n (s.u 0).c, .slice (s.u 1).a (s.u 1).n (s.u 1).c, .slice (s.u 2).a (s.u 2).n (s.u 2).c, .slice s.c.a s.c.n s.c.c]), .int .i64 k, .int .i64 a] W fun e w' => e = .returned (.tuple #[.int .i64 av, .bool bv]) ∧ Below W.heap.size W w') (hRX : ∀ W b1 t1 b2 t2 b3 t3 b4 t4 b5 t5, Lx w W none 0 (fun _ => Ls.noSl) noCaches [(b5, t5, dC), (b4, t4, dC), (b3, t3, dD), (b2, t2, dD), (b1, t1, d), (w.heap.size, s, d)] → Calls Tryz.prog 33 #[(.agg #[.slice s.w.a s.w.n s.w.c, .slice s.p.a s.p.n s.p.c, .slice (s.u 0).a (s.u 0).n (s.u 0).c, .slice (s.u 1).a (s.u 1).n (s.u 1).c, .slice (s.u 2).a (s.u 2).n (s.u 2).c, .slice s.c.a s.c.n s.c.c]), .int .i64 k, .int .i64 a] W fun e w' => e = .returned (.tuple #[.int .i64 av, .bool bv]) ∧ Below W.heap.size W w') (hS3 : ∀ W b1 t1 b2 t2 b3 t3 b4 t4 b5 t5, P1 t1 → Lx w W none 0 (fun _ => Ls.noSl) noCaches [(b5, t5, dC), (b4, t4, dC), (b3, t3, dD), (b2, t2, dD), (b1, t1, d), (w.heap.size, s, d)] → Calls Tryz.prog 11 #[(.agg #[.slice s.w.a s.w.n s.w.c, .slice s.p.a s.p.n s.p.c, .slice (s.u 0).a (s.u 0).n (s.u 0).c, .slice (s.u 1).a (s.u 1).n (s.u 1).c, .slice (s.u 2).a (s.u 2).n (s.u 2).c, .slice s.c.a s.c.n s.c.c]), (.agg #[.slice t1.w.a t1.w.n t1.w.c, .slice t1.p.a t1.p.n t1.p.c, .slice (t1.u 0).a (t1.u 0).n (t1.u 0).c, .slice (t1.u 1).a (t1.u 1).n (t1.u 1).c, .slice (t1.u 2).a (t1.u 2).n (t1.u 2).c, .slice t1.c.a t1.c.n t1.c.c])] W fun e w' => e = .returned (.bool true) ∧ Below W.heap.size W w') (hI : ∀ W b1 t1 b2 t2 b3 t3 b4 t4 b5 t5, Lx w W none 0 (fun _ => Ls.noSl) noCaches [(b5, t5, dC), (b4, t4, dC), (b3, t3, dD), (b2, t2, dD), (b1, t1, d), (w.heap.size, s, d)] → Calls Tryz.prog 34 #[(.agg #[.slice s.w.a s.w.n s.w.c, .slice s.p.a s.p.n s.p.c, .slice (s.u 0).a (s.u 0).n (s.u 0).c, .slice (s.u 1).a (s.u 1).n (s.u 1).c, .slice (s.u 2).a (s.u 2).n (s.u 2).c, .slice s.c.a s.c.n s.c.c]), .int .i64 a] W fun e w' => e = .returned (.bool bI) ∧ Below W.heap.size W w') (hRI : ∀ W b1 t1 b2 t2 b3 t3 b4 t4 b5 t5, Lx w W none 0 (fun _ => Ls.noSl) noCaches [(b5, t5, dC), (b4, t4, dC), (b3, t3, dD), (b2, t2, dD), (b1, t1, d), (w.heap.size, s, d)] → Calls Tryz.prog 35 #[(.agg #[.slice s.w.a s.w.n s.w.c, .slice s.p.a s.p.n s.p.c, .slice (s.u 0).a (s.u 0).n (s.u 0).c, .slice (s.u 1).a (s.u 1).n (s.u 1).c, .slice (s.u 2).a (s.u 2).n (s.u 2).c, .slice s.c.a s.c.n s.c.c]), .int .i64 a] W fun e w' => e = .returned (.bool bI) ∧ Below W.heap.size W w') (hz : Cl.Sz w) (hp : Hp w w.heap.size s d) : Calls Tryz.prog 5 #[(.agg #[.slice s.w.a s.w.n s.w.c, .slice s.p.a s.p.n s.p.c, .slice (s.u 0).a (s.u 0).n (s.u 0).c, .slice (s.u 1).a (s.u 1).n (s.u 1).c, .slice (s.u 2).a (s.u 2).n (s.u 2).c, .slice s.c.a s.c.n s.c.c]), .int .i64 a, .int .i64 k] w fun e w' => e = .returned (.bool true) ∧ Below w.heap.size w w' := by
  have HZ := Lib.hid hz
  have hz0 := hz.pos
  have HP := Lib.hid hp
  have HF := Lib.hid hf
  have WY := Lib.hid hW
  have OY := Lib.hid hO
  have ROY := Lib.hid hRO
  have DY := Lib.hid hD
  have RDY := Lib.hid hRD
  have S1Y := Lib.hid hS1
  have CY := Lib.hid hC
  have RCY := Lib.hid hRC
  have S2Y := Lib.hid hS2
  have NY := Lib.hid hN
  have RNY := Lib.hid hRN
  have XY := Lib.hid hX
  have RXY := Lib.hid hRX
  have S3Y := Lib.hid hS3
  have IY := Lib.hid hI
  have RIY := Lib.hid hRI
  have g0 : (n1 == n1) = true := by simp
  have g1 : (er == er) = true := by simp
  have g2 : (eD == eD) = true := by simp
  have g3 : (eC == eC) = true := by simp
  have g4 : (av == av) = true := by simp
  have g5 : (bv == bv) = true := by simp
  have g6 : (bI == bI) = true := by simp
  clear hz hp hf hW hO hRO hD hRD hS1 hC hRC hS2 hN hRN hX hRX hS3 hI hRI
  go_enter Tryz.func5, Tryz.ntmps5
  go_wp2_with fail
  obtain ⟨W1, hW1⟩ : ∃ W1, W1 = w.alloc (.cells #[.slice s.w.a s.w.n s.w.c, .slice s.p.a s.p.n s.p.c, .slice (s.u 0).a (s.u 0).n (s.u 0).c, .slice (s.u 1).a (s.u 1).n (s.u 1).c, .slice (s.u 2).a (s.u 2).n (s.u 2).c, .slice s.c.a s.c.n s.c.c] 28) := ⟨_, rfl⟩
  have L1 := Lib.hid (lx_start (A := none) (n := 0) (U := (fun _ => Ls.noSl)) (F := noCaches) HP.out (fun h => absurd h (by omega)) hW1)
  rw [← hW1]
  clear hW1
  refine (Ck.awake_any W1 (HZ.out.over L1.out.bel hz0)).mono ?_
  rintro e9 w1 ⟨rfl, hb1⟩
  have L2 := Lib.hid (L1.out.next hb1)
  clear hb1 L1
  have q0 := (L2.out.at (w.heap.size) (s) (d) (by simp)).c0
  have q1 := (L2.out.at (w.heap.size) (s) (d) (by simp)).c1
  have q2 := (L2.out.at (w.heap.size) (s) (d) (by simp)).c2
  have q3 := (L2.out.at (w.heap.size) (s) (d) (by simp)).c3
  have q4 := (L2.out.at (w.heap.size) (s) (d) (by simp)).c4
  have q5 := (L2.out.at (w.heap.size) (s) (d) (by simp)).c5
  have ql := (L2.out.at (w.heap.size) (s) (d) (by simp)).lt
  go_wp2_with fail
  refine (rfew_any s w1).mono ?_
  rw [HF.out]
  rintro e9 w2 ⟨rfl, hb2⟩
  have L3 := Lib.hid (L2.out.next hb2)
  clear hb2 L2
  clear q0 q1 q2 q3 q4 q5 ql
  have q0 := (L3.out.at (w.heap.size) (s) (d) (by simp)).c0
  have q1 := (L3.out.at (w.heap.size) (s) (d) (by simp)).c1
  have q2 := (L3.out.at (w.heap.size) (s) (d) (by simp)).c2
  have q3 := (L3.out.at (w.heap.size) (s) (d) (by simp)).c3
  have q4 := (L3.out.at (w.heap.size) (s) (d) (by simp)).c4
  have q5 := (L3.out.at (w.heap.size) (s) (d) (by simp)).c5
  have ql := (L3.out.at (w.heap.size) (s) (d) (by simp)).lt
  go_wp2_with fail
  refine (WY.out w2 L3.out).mono ?_
  rintro e9 w9 ⟨t1, rfl, hp9, hl9, hb9⟩
  have L4 := Lib.hid (L3.out.add (nw_new (ty := 28) hb9 hp9))
  have N1 := Lib.hid hl9
  clear hp9 hb9 hl9 L3
  clear q0 q1 q2 q3 q4 q5 ql
  go_upto_region 6 with fail
  obtain ⟨v4, h0⟩ : ∃ W, W = w9.alloc (.cells #[.slice t1.w.a t1.w.n t1.w.c, .slice t1.p.a t1.p.n t1.p.c, .slice (t1.u 0).a (t1.u 0).n (t1.u 0).c, .slice (t1.u 1).a (t1.u 1).n (t1.u 1).c, .slice (t1.u 2).a (t1.u 2).n (t1.u 2).c, .slice t1.c.a t1.c.n t1.c.c] 28) := ⟨_, rfl⟩
  obtain ⟨b1, h1⟩ : ∃ b, b = w9.heap.size := ⟨_, rfl⟩
  rw [← h0, ← h1] at L4
  rw [← h0, ← h1]
  clear h0 h1
  have q0 := (L4.out.at (w.heap.size) (s) (d) (by simp)).c0
  have q1 := (L4.out.at (w.heap.size) (s) (d) (by simp)).c1
  have q2 := (L4.out.at (w.heap.size) (s) (d) (by simp)).c2
  have q3 := (L4.out.at (w.heap.size) (s) (d) (by simp)).c3
  have q4 := (L4.out.at (w.heap.size) (s) (d) (by simp)).c4
  have q5 := (L4.out.at (w.heap.size) (s) (d) (by simp)).c5
  have ql := (L4.out.at (w.heap.size) (s) (d) (by simp)).lt
  go_wp2_with fail
  refine (OY.out v4 b1 t1 L4.out).mono ?_
  rintro e9 w5 ⟨rfl, hb9⟩
  have L5 := Lib.hid (L4.out.next hb9)
  clear hb9 L4
  clear q0 q1 q2 q3 q4 q5 ql
  have q0 := (L5.out.at (w.heap.size) (s) (d) (by simp)).c0
  have q1 := (L5.out.at (w.heap.size) (s) (d) (by simp)).c1
  have q2 := (L5.out.at (w.heap.size) (s) (d) (by simp)).c2
  have q3 := (L5.out.at (w.heap.size) (s) (d) (by simp)).c3
  have q4 := (L5.out.at (w.heap.size) (s) (d) (by simp)).c4
  have q5 := (L5.out.at (w.heap.size) (s) (d) (by simp)).c5
  have ql := (L5.out.at (w.heap.size) (s) (d) (by simp)).lt
  go_wp2_with fail
  refine (ROY.out w5 b1 t1 L5.out).mono ?_
  rintro e9 w6 ⟨rfl, hb9⟩
  have L6 := Lib.hid (L5.out.next hb9)
  clear hb9 L5
  clear q0 q1 q2 q3 q4 q5 ql
  have q0 := (L6.out.at (w.heap.size) (s) (d) (by simp)).c0
  have q1 := (L6.out.at (w.heap.size) (s) (d) (by simp)).c1
  have q2 := (L6.out.at (w.heap.size) (s) (d) (by simp)).c2
  have q3 := (L6.out.at (w.heap.size) (s) (d) (by simp)).c3
  have q4 := (L6.out.at (w.heap.size) (s) (d) (by simp)).c4
  have q5 := (L6.out.at (w.heap.size) (s) (d) (by simp)).c5
  have ql := (L6.out.at (w.heap.size) (s) (d) (by simp)).lt
  go_wp2_with fail
  refine (DY.out w6 b1 t1 L6.out).mono ?_
  rintro e9 w9 ⟨t2, rfl, hp9, hl9, hb9⟩
  have L7 := Lib.hid (L6.out.add (nw_new (ty := 28) hb9 hp9))
  have N2 := Lib.hid hl9
  clear hp9 hb9 hl9 L6
  clear q0 q1 q2 q3 q4 q5 ql
  go_upto_region 9 with fail
  obtain ⟨v7, h0⟩ : ∃ W, W = w9.alloc (.cells #[.slice t2.w.a t2.w.n t2.w.c, .slice t2.p.a t2.p.n t2.p.c, .slice (t2.u 0).a (t2.u 0).n (t2.u 0).c, .slice (t2.u 1).a (t2.u 1).n (t2.u 1).c, .slice (t2.u 2).a (t2.u 2).n (t2.u 2).c, .slice t2.c.a t2.c.n t2.c.c] 28) := ⟨_, rfl⟩
  obtain ⟨b2, h1⟩ : ∃ b, b = w9.heap.size := ⟨_, rfl⟩
  rw [← h0, ← h1] at L7
  rw [← h0, ← h1]
  clear h0 h1
  have q0 := (L7.out.at (w.heap.size) (s) (d) (by simp)).c0
  have q1 := (L7.out.at (w.heap.size) (s) (d) (by simp)).c1
  have q2 := (L7.out.at (w.heap.size) (s) (d) (by simp)).c2
  have q3 := (L7.out.at (w.heap.size) (s) (d) (by simp)).c3
  have q4 := (L7.out.at (w.heap.size) (s) (d) (by simp)).c4
  have q5 := (L7.out.at (w.heap.size) (s) (d) (by simp)).c5
  have ql := (L7.out.at (w.heap.size) (s) (d) (by simp)).lt
  go_wp2_with fail
  refine (RDY.out v7 b1 t1 b2 t2 L7.out).mono ?_
  rintro e9 w9 ⟨t3, rfl, hp9, hl9, hb9⟩
  have L8 := Lib.hid (L7.out.add (nw_new (ty := 28) hb9 hp9))
  have N3 := Lib.hid hl9
  clear hp9 hb9 hl9 L7
  clear q0 q1 q2 q3 q4 q5 ql
  go_upto_region 10 with fail
  obtain ⟨v8, h0⟩ : ∃ W, W = w9.alloc (.cells #[.slice t3.w.a t3.w.n t3.w.c, .slice t3.p.a t3.p.n t3.p.c, .slice (t3.u 0).a (t3.u 0).n (t3.u 0).c, .slice (t3.u 1).a (t3.u 1).n (t3.u 1).c, .slice (t3.u 2).a (t3.u 2).n (t3.u 2).c, .slice t3.c.a t3.c.n t3.c.c] 28) := ⟨_, rfl⟩
  obtain ⟨b3, h1⟩ : ∃ b, b = w9.heap.size := ⟨_, rfl⟩
  rw [← h0, ← h1] at L8
  rw [← h0, ← h1]
  clear h0 h1
  have p0 := (L8.out.at (b3) (t3) (dD) (by simp)).c0
  have p1 := (L8.out.at (b3) (t3) (dD) (by simp)).c1
  have p2 := (L8.out.at (b3) (t3) (dD) (by simp)).c2
  have p3 := (L8.out.at (b3) (t3) (dD) (by simp)).c3
  have p4 := (L8.out.at (b3) (t3) (dD) (by simp)).c4
  have p5 := (L8.out.at (b3) (t3) (dD) (by simp)).c5
  have pl := (L8.out.at (b3) (t3) (dD) (by simp)).lt
  have q0 := (L8.out.at (b2) (t2) (dD) (by simp)).c0
  have q1 := (L8.out.at (b2) (t2) (dD) (by simp)).c1
  have q2 := (L8.out.at (b2) (t2) (dD) (by simp)).c2
  have q3 := (L8.out.at (b2) (t2) (dD) (by simp)).c3
  have q4 := (L8.out.at (b2) (t2) (dD) (by simp)).c4
  have q5 := (L8.out.at (b2) (t2) (dD) (by simp)).c5
  have ql := (L8.out.at (b2) (t2) (dD) (by simp)).lt
  go_wp2_with fail
  refine (S1Y.out v8 b1 t1 b2 t2 b3 t3 N2.out N3.out L8.out).mono ?_
  rintro e9 w10 ⟨rfl, hb9⟩
  have L9 := Lib.hid (L8.out.next hb9)
  clear hb9 L8
  clear q0 q1 q2 q3 q4 q5 ql
  clear p0 p1 p2 p3 p4 p5 pl
  have q0 := (L9.out.at (w.heap.size) (s) (d) (by simp)).c0
  have q1 := (L9.out.at (w.heap.size) (s) (d) (by simp)).c1
  have q2 := (L9.out.at (w.heap.size) (s) (d) (by simp)).c2
  have q3 := (L9.out.at (w.heap.size) (s) (d) (by simp)).c3
  have q4 := (L9.out.at (w.heap.size) (s) (d) (by simp)).c4
  have q5 := (L9.out.at (w.heap.size) (s) (d) (by simp)).c5
  have ql := (L9.out.at (w.heap.size) (s) (d) (by simp)).lt
  go_wp2_with fail
  refine (CY.out w10 b1 t1 b2 t2 b3 t3 L9.out).mono ?_
  rintro e9 w9 ⟨t4, rfl, hp9, hl9, hb9⟩
  have LA := Lib.hid (L9.out.add (nw_new (ty := 28) hb9 hp9))
  have N4 := Lib.hid hl9
  clear hp9 hb9 hl9 L9
  clear q0 q1 q2 q3 q4 q5 ql
  go_upto_region 12 with fail
  obtain ⟨v11, h0⟩ : ∃ W, W = w9.alloc (.cells #[.slice t4.w.a t4.w.n t4.w.c, .slice t4.p.a t4.p.n t4.p.c, .slice (t4.u 0).a (t4.u 0).n (t4.u 0).c, .slice (t4.u 1).a (t4.u 1).n (t4.u 1).c, .slice (t4.u 2).a (t4.u 2).n (t4.u 2).c, .slice t4.c.a t4.c.n t4.c.c] 28) := ⟨_, rfl⟩
  obtain ⟨b4, h1⟩ : ∃ b, b = w9.heap.size := ⟨_, rfl⟩
  rw [← h0, ← h1] at LA
  rw [← h0, ← h1]
  clear h0 h1
  have q0 := (LA.out.at (w.heap.size) (s) (d) (by simp)).c0
  have q1 := (LA.out.at (w.heap.size) (s) (d) (by simp)).c1
  have q2 := (LA.out.at (w.heap.size) (s) (d) (by simp)).c2
  have q3 := (LA.out.at (w.heap.size) (s) (d) (by simp)).c3
  have q4 := (LA.out.at (w.heap.size) (s) (d) (by simp)).c4
  have q5 := (LA.out.at (w.heap.size) (s) (d) (by simp)).c5
  have ql := (LA.out.at (w.heap.size) (s) (d) (by simp)).lt
  go_wp2_with fail
  refine (RCY.out v11 b1 t1 b2 t2 b3 t3 b4 t4 LA.out).mono ?_
  rintro e9 w9 ⟨t5, rfl, hp9, hl9, hb9⟩
  have LB := Lib.hid (LA.out.add (nw_new (ty := 28) hb9 hp9))
  have N5 := Lib.hid hl9
  clear hp9 hb9 hl9 LA
  clear q0 q1 q2 q3 q4 q5 ql
  go_upto_region 13 with fail
  obtain ⟨v12, h0⟩ : ∃ W, W = w9.alloc (.cells #[.slice t5.w.a t5.w.n t5.w.c, .slice t5.p.a t5.p.n t5.p.c, .slice (t5.u 0).a (t5.u 0).n (t5.u 0).c, .slice (t5.u 1).a (t5.u 1).n (t5.u 1).c, .slice (t5.u 2).a (t5.u 2).n (t5.u 2).c, .slice t5.c.a t5.c.n t5.c.c] 28) := ⟨_, rfl⟩
  obtain ⟨b5, h1⟩ : ∃ b, b = w9.heap.size := ⟨_, rfl⟩
  rw [← h0, ← h1] at LB
  rw [← h0, ← h1]
  clear h0 h1
  have p0 := (LB.out.at (b5) (t5) (dC) (by simp)).c0
  have p1 := (LB.out.at (b5) (t5) (dC) (by simp)).c1
  have p2 := (LB.out.at (b5) (t5) (dC) (by simp)).c2
  have p3 := (LB.out.at (b5) (t5) (dC) (by simp)).c3
  have p4 := (LB.out.at (b5) (t5) (dC) (by simp)).c4
  have p5 := (LB.out.at (b5) (t5) (dC) (by simp)).c5
  have pl := (LB.out.at (b5) (t5) (dC) (by simp)).lt
  have q0 := (LB.out.at (b4) (t4) (dC) (by simp)).c0
  have q1 := (LB.out.at (b4) (t4) (dC) (by simp)).c1
  have q2 := (LB.out.at (b4) (t4) (dC) (by simp)).c2
  have q3 := (LB.out.at (b4) (t4) (dC) (by simp)).c3
  have q4 := (LB.out.at (b4) (t4) (dC) (by simp)).c4
  have q5 := (LB.out.at (b4) (t4) (dC) (by simp)).c5
  have ql := (LB.out.at (b4) (t4) (dC) (by simp)).lt
  go_wp2_with fail
  refine (S2Y.out v12 b1 t1 b2 t2 b3 t3 b4 t4 b5 t5 N4.out N5.out LB.out).mono ?_
  rintro e9 w14 ⟨rfl, hb9⟩
  have LC := Lib.hid (LB.out.next hb9)
  clear hb9 LB
  clear q0 q1 q2 q3 q4 q5 ql
  clear p0 p1 p2 p3 p4 p5 pl
  have M1 : (w.heap.size, s, d) ∈ [(b5, t5, dC), (b4, t4, dC), (b3, t3, dD), (b2, t2, dD), (b1, t1, d), (w.heap.size, s, d)] := by simp
  have LT := Lib.hid (And.intro LC.out True.intro)
  have q0 := (LC.out.at (w.heap.size) (s) (d) (by simp)).c0
  have q1 := (LC.out.at (w.heap.size) (s) (d) (by simp)).c1
  have q2 := (LC.out.at (w.heap.size) (s) (d) (by simp)).c2
  have q3 := (LC.out.at (w.heap.size) (s) (d) (by simp)).c3
  have q4 := (LC.out.at (w.heap.size) (s) (d) (by simp)).c4
  have q5 := (LC.out.at (w.heap.size) (s) (d) (by simp)).c5
  have ql := (LC.out.at (w.heap.size) (s) (d) (by simp)).lt
  go_wp2_with fail
  go_region_held3 (fun W => (Lx w W none 0 (fun _ => Ls.noSl) noCaches [(b5, t5, dC), (b4, t4, dC), (b3, t3, dD), (b2, t2, dD), (b1, t1, d), (w.heap.size, s, d)] ∧ True) ∧ w.heap.size < W.heap.size ∧ W.cell? ⟨w.heap.size, 0, none⟩ = some (.slice s.w.a s.w.n s.w.c) ∧ W.cell? ⟨w.heap.size, 1, none⟩ = some (.slice s.p.a s.p.n s.p.c) ∧ W.cell? ⟨w.heap.size, 2, none⟩ = some (.slice (s.u 0).a (s.u 0).n (s.u 0).c) ∧ W.cell? ⟨w.heap.size, 3, none⟩ = some (.slice (s.u 1).a (s.u 1).n (s.u 1).c) ∧ W.cell? ⟨w.heap.size, 4, none⟩ = some (.slice (s.u 2).a (s.u 2).n (s.u 2).c) ∧ W.cell? ⟨w.heap.size, 5, none⟩ = some (.slice s.c.a s.c.n s.c.c)) (first
    | with_reducible exact lx_keep1 M1 (‹(Lx w _ none 0 _ noCaches _ ∧ True) ∧ _›).1 ‹Below _ _ _›
    | with_reducible exact lx_keep1 M1 LT.out (Below.refl _ _)
    | exact lx_keep1 M1 LT.out (below_drawn' (Below.refl _ _) 1)) (first
    | ((go_at_call 30; refine (NY.out _ b1 t1 b2 t2 b3 t3 b4 t4 b5 t5 (‹(Lx w _ none 0 _ noCaches _ ∧ True) ∧ _›).1.1).mono ?_; rintro e x1 ⟨y1, rfl, ho1, hb1⟩; have R1 := Lib.hid (And.intro (row_of ho1) (show y1.n ≤ 4000000 by have h1 := ho1.1; simp only [List.length_map] at h1; omega)); clear ho1))
    | ((go_at_call 31; refine (RNY.out _ b1 t1 b2 t2 b3 t3 b4 t4 b5 t5 (‹(Lx w _ none 0 _ noCaches _ ∧ True) ∧ _›).1.1).mono ?_; rintro e x2 ⟨y2, rfl, ho2, hb2⟩; have R2 := Lib.hid (And.intro (row_next' R1.out.1 hb2) (And.intro (row_of ho2) (And.intro R1.out.2 (show y2.n ≤ 4000000 by have h1 := ho2.1; simp only [List.length_map] at h1; omega)))); clear ho2))
    | ((go_at_call 29; refine (Ls.ints_any _ _ y1.a y2.a y1.n y2.n y1.c y2.c xs xs _ R2.out.2.2.1 R2.out.2.2.2 R2.out.1 R2.out.2.1).mono ?_; rw [decide_eq_true rfl]; rintro e x3 ⟨rfl, dd, hx3⟩; have hb3 : Below x2.heap.size x2 x3 := (by rw [hx3]; exact below_drawn' (Below.refl _ _) dd); clear hx3)))
  have LD := Lib.hid (‹(Lx w x3 none 0 _ noCaches _ ∧ True) ∧ _›).1.1
  clear LC LT M1 hb1 hb2 hb3 R1 R2 q0 q1 q2 q3 q4 q5 ql
  obtain ⟨v14, hv14⟩ : ∃ v, v = x3 := ⟨_, rfl⟩
  rw [← hv14] at LD ⊢
  clear hv14
  have q0 := (LD.out.at (w.heap.size) (s) (d) (by simp)).c0
  have q1 := (LD.out.at (w.heap.size) (s) (d) (by simp)).c1
  have q2 := (LD.out.at (w.heap.size) (s) (d) (by simp)).c2
  have q3 := (LD.out.at (w.heap.size) (s) (d) (by simp)).c3
  have q4 := (LD.out.at (w.heap.size) (s) (d) (by simp)).c4
  have q5 := (LD.out.at (w.heap.size) (s) (d) (by simp)).c5
  have ql := (LD.out.at (w.heap.size) (s) (d) (by simp)).lt
  go_wp2_with fail
  refine (XY.out v14 b1 t1 b2 t2 b3 t3 b4 t4 b5 t5 LD.out).mono ?_
  rintro e9 w15 ⟨rfl, hb9⟩
  have LE := Lib.hid (LD.out.next hb9)
  clear hb9 LD
  clear q0 q1 q2 q3 q4 q5 ql
  have q0 := (LE.out.at (w.heap.size) (s) (d) (by simp)).c0
  have q1 := (LE.out.at (w.heap.size) (s) (d) (by simp)).c1
  have q2 := (LE.out.at (w.heap.size) (s) (d) (by simp)).c2
  have q3 := (LE.out.at (w.heap.size) (s) (d) (by simp)).c3
  have q4 := (LE.out.at (w.heap.size) (s) (d) (by simp)).c4
  have q5 := (LE.out.at (w.heap.size) (s) (d) (by simp)).c5
  have ql := (LE.out.at (w.heap.size) (s) (d) (by simp)).lt
  go_wp2_with fail
  refine (RXY.out w15 b1 t1 b2 t2 b3 t3 b4 t4 b5 t5 LE.out).mono ?_
  rintro e9 w16 ⟨rfl, hb9⟩
  have LF := Lib.hid (LE.out.next hb9)
  clear hb9 LE
  clear q0 q1 q2 q3 q4 q5 ql
  have p0 := (LF.out.at (b1) (t1) (d) (by simp)).c0
  have p1 := (LF.out.at (b1) (t1) (d) (by simp)).c1
  have p2 := (LF.out.at (b1) (t1) (d) (by simp)).c2
  have p3 := (LF.out.at (b1) (t1) (d) (by simp)).c3
  have p4 := (LF.out.at (b1) (t1) (d) (by simp)).c4
  have p5 := (LF.out.at (b1) (t1) (d) (by simp)).c5
  have pl := (LF.out.at (b1) (t1) (d) (by simp)).lt
  have q0 := (LF.out.at (w.heap.size) (s) (d) (by simp)).c0
  have q1 := (LF.out.at (w.heap.size) (s) (d) (by simp)).c1
  have q2 := (LF.out.at (w.heap.size) (s) (d) (by simp)).c2
  have q3 := (LF.out.at (w.heap.size) (s) (d) (by simp)).c3
  have q4 := (LF.out.at (w.heap.size) (s) (d) (by simp)).c4
  have q5 := (LF.out.at (w.heap.size) (s) (d) (by simp)).c5
  have ql := (LF.out.at (w.heap.size) (s) (d) (by simp)).lt
  go_wp2_with fail
  refine (S3Y.out w16 b1 t1 b2 t2 b3 t3 b4 t4 b5 t5 N1.out LF.out).mono ?_
  rintro e9 w17 ⟨rfl, hb9⟩
  have LG := Lib.hid (LF.out.next hb9)
  clear hb9 LF
  clear q0 q1 q2 q3 q4 q5 ql
  clear p0 p1 p2 p3 p4 p5 pl
  have M1 : (w.heap.size, s, d) ∈ [(b5, t5, dC), (b4, t4, dC), (b3, t3, dD), (b2, t2, dD), (b1, t1, d), (w.heap.size, s, d)] := by simp
  have LT := Lib.hid (And.intro LG.out True.intro)
  have q0 := (LG.out.at (w.heap.size) (s) (d) (by simp)).c0
  have q1 := (LG.out.at (w.heap.size) (s) (d) (by simp)).c1
  have q2 := (LG.out.at (w.heap.size) (s) (d) (by simp)).c2
  have q3 := (LG.out.at (w.heap.size) (s) (d) (by simp)).c3
  have q4 := (LG.out.at (w.heap.size) (s) (d) (by simp)).c4
  have q5 := (LG.out.at (w.heap.size) (s) (d) (by simp)).c5
  have ql := (LG.out.at (w.heap.size) (s) (d) (by simp)).lt
  go_wp2_with fail
  go_region_held3 (fun W => (Lx w W none 0 (fun _ => Ls.noSl) noCaches [(b5, t5, dC), (b4, t4, dC), (b3, t3, dD), (b2, t2, dD), (b1, t1, d), (w.heap.size, s, d)] ∧ True) ∧ w.heap.size < W.heap.size ∧ W.cell? ⟨w.heap.size, 0, none⟩ = some (.slice s.w.a s.w.n s.w.c) ∧ W.cell? ⟨w.heap.size, 1, none⟩ = some (.slice s.p.a s.p.n s.p.c) ∧ W.cell? ⟨w.heap.size, 2, none⟩ = some (.slice (s.u 0).a (s.u 0).n (s.u 0).c) ∧ W.cell? ⟨w.heap.size, 3, none⟩ = some (.slice (s.u 1).a (s.u 1).n (s.u 1).c) ∧ W.cell? ⟨w.heap.size, 4, none⟩ = some (.slice (s.u 2).a (s.u 2).n (s.u 2).c) ∧ W.cell? ⟨w.heap.size, 5, none⟩ = some (.slice s.c.a s.c.n s.c.c)) (first
    | with_reducible exact lx_keep1 M1 (‹(Lx w _ none 0 _ noCaches _ ∧ True) ∧ _›).1 ‹Below _ _ _›
    | with_reducible exact lx_keep1 M1 LT.out (Below.refl _ _)
    | exact lx_keep1 M1 LT.out (below_drawn' (Below.refl _ _) 1)) (first
    | ((go_at_call 34; refine (IY.out _ b1 t1 b2 t2 b3 t3 b4 t4 b5 t5 (‹(Lx w _ none 0 _ noCaches _ ∧ True) ∧ _›).1.1).mono ?_; rintro e x4 ⟨rfl, hb4⟩))
    | ((go_at_call 35; refine (RIY.out _ b1 t1 b2 t2 b3 t3 b4 t4 b5 t5 (‹(Lx w _ none 0 _ noCaches _ ∧ True) ∧ _›).1.1).mono ?_; rintro e x5 ⟨rfl, hb5⟩)))
  have LH := Lib.hid (‹(Lx w x5 none 0 _ noCaches _ ∧ True) ∧ _›).1.1
  clear LG LT M1 hb4 hb5 q0 q1 q2 q3 q4 q5 ql
  go_wp2
  go_ret
  exact ⟨rfl, LH.out.bel⟩
end
theorem walk (s : Hs) (d : Hd_) (a k : Int) (w : World) (hz : Cl.Sz w) (hp : Hp w w.heap.size s d) (hv : Fit64 d.ws) (_ : s.p.n ≤ s.p.c) (ha : (Lit.int .i64 a).wf = true) (_ : (Lit.int .i64 k).wf = true) :
    Calls Tryz.prog 5 #[(.agg #[.slice s.w.a s.w.n s.w.c, .slice s.p.a s.p.n s.p.c, .slice (s.u 0).a (s.u 0).n (s.u 0).c, .slice (s.u 1).a (s.u 1).n (s.u 1).c, .slice (s.u 2).a (s.u 2).n (s.u 2).c, .slice s.c.a s.c.n s.c.c]), .int .i64 a, .int .i64 k] w fun e w' => e = .returned (.bool true) ∧ Below w.heap.size w w' := by
  cases hf : fewH s
  · exact walk_few s d a k w hf hz hp
  have hfi := fine_few hf hp hv
  have hz0 := hz.pos
  have ha2 := (wf_bounds ha).2
  have hfp := few_parts hf
  have hFl : ∀ j, j < 3 → (d.F j).length ≤ 4000000 := fun j hj => Nat.le_trans (few_lists hf hp j hj).2 (by decide)
  have hb1 : (dirR s d a).wn ≤ 4000 ∧ (dirR s d a).pn ≤ 1000 ∧ (dirR s d a).cn ≤ 100000 ∧ ∀ j, j < 3 → ((dirR s d a).d.F j).length ≤ 4000000 := by
    unfold dirR
    split
    · exact ⟨by show s.w.n ≤ _; omega, by show s.p.n ≤ _; omega, by show s.c.n ≤ _; omega, hFl⟩
    · exact ⟨Nat.zero_le _, Nat.zero_le _, Nat.zero_le _, fun _ _ => Nat.zero_le _⟩
  have hb2 : (clR s d k).wn ≤ 4000 ∧ (clR s d k).pn ≤ 1000 ∧ (clR s d k).cn ≤ 100000 ∧ ∀ j, j < 3 → ((clR s d k).d.F j).length ≤ 4000000 := by
    unfold clR
    split
    · exact ⟨by show s.w.n ≤ _; omega, by show s.p.n ≤ _; omega, by show s.c.n ≤ _; omega, hFl⟩
    · exact ⟨Nat.zero_le _, Nat.zero_le _, Nat.zero_le _, fun _ _ => Nat.zero_le _⟩
  refine core s d a k w (Lens s) (fun t => t.w.n = (dirR s d a).wn ∧ t.p.n = (dirR s d a).pn ∧ t.c.n = (dirR s d a).cn) (fun t => t.w.n = (clR s d k).wn ∧ t.p.n = (clR s d k).pn ∧ t.c.n = (clR s d k).cn) (ofN s d a) (ofE s d a) (dirR s d a).er (clR s d k).er (nextA s d k a) (nextB s d k a) (isB s d a) (onL s d k) (on_len s d k) (dirR s d a).d (clR s d k).d hf
    (fun W h => (rown7_any s d W (h.hp w.heap.size s d (by simp)) hfi.wn (by have := hfi.pn; omega) hfi.cn (own_small hfi (h.hp w.heap.size s d (by simp)))).mono fun e w' ⟨t, h1, _, h2, h3, _, _, h4⟩ => ⟨t, h1, h2, h3, h4⟩)
    (fun (W : World) (b1 : Nat) (t1 : Hs) (h : Lx w W none 0 (fun _ => Ls.noSl) noCaches [(b1, t1, d), (w.heap.size, s, d)]) => of_any s d W a (h.hp w.heap.size s d (by simp)) (hz.over h.bel hz0) hfi ha2)
    (fun (W : World) (b1 : Nat) (t1 : Hs) (h : Lx w W none 0 (fun _ => Ls.noSl) noCaches [(b1, t1, d), (w.heap.size, s, d)]) => rof_any s d W a (h.hp w.heap.size s d (by simp)) hfi)
    (fun (W : World) (b1 : Nat) (t1 : Hs) (h : Lx w W none 0 (fun _ => Ls.noSl) noCaches [(b1, t1, d), (w.heap.size, s, d)]) => dirty_any s d W a (h.hp w.heap.size s d (by simp)) (hz.over h.bel hz0) hfi ha2)
    (fun (W : World) (b1 : Nat) (t1 : Hs) (b2 : Nat) (t2 : Hs) (h : Lx w W none 0 (fun _ => Ls.noSl) noCaches [(b2, t2, (dirR s d a).d), (b1, t1, d), (w.heap.size, s, d)]) => rdirty_any s d W a (h.hp w.heap.size s d (by simp)) hfi)
    (fun W b1 t1 b2 t2 b3 t3 l2 l3 h => same_rz (h.hp b2 t2 (dirR s d a).d (by simp)) (h.hp b3 t3 (dirR s d a).d (by simp)) l2 l3 hb1.1 hb1.2.1 hb1.2.2.1 hb1.2.2.2)
    (fun (W : World) (b1 : Nat) (t1 : Hs) (b2 : Nat) (t2 : Hs) (b3 : Nat) (t3 : Hs) (h : Lx w W none 0 (fun _ => Ls.noSl) noCaches [(b3, t3, (dirR s d a).d), (b2, t2, (dirR s d a).d), (b1, t1, d), (w.heap.size, s, d)]) => clean_any s d W k (h.hp w.heap.size s d (by simp)) (hz.over h.bel hz0) hfi)
    (fun (W : World) (b1 : Nat) (t1 : Hs) (b2 : Nat) (t2 : Hs) (b3 : Nat) (t3 : Hs) (b4 : Nat) (t4 : Hs) (h : Lx w W none 0 (fun _ => Ls.noSl) noCaches [(b4, t4, (clR s d k).d), (b3, t3, (dirR s d a).d), (b2, t2, (dirR s d a).d), (b1, t1, d), (w.heap.size, s, d)]) => rclean_any s d W k (h.hp w.heap.size s d (by simp)) hfi)
    (fun W b1 t1 b2 t2 b3 t3 b4 t4 b5 t5 l4 l5 h => same_rz (h.hp b4 t4 (clR s d k).d (by simp)) (h.hp b5 t5 (clR s d k).d (by simp)) l4 l5 hb2.1 hb2.2.1 hb2.2.2.1 hb2.2.2.2)
    (fun (W : World) (b1 : Nat) (t1 : Hs) (b2 : Nat) (t2 : Hs) (b3 : Nat) (t3 : Hs) (b4 : Nat) (t4 : Hs) (b5 : Nat) (t5 : Hs) (h : Lx w W none 0 (fun _ => Ls.noSl) noCaches [(b5, t5, (clR s d k).d), (b4, t4, (clR s d k).d), (b3, t3, (dirR s d a).d), (b2, t2, (dirR s d a).d), (b1, t1, d), (w.heap.size, s, d)]) => on_any s d W k (h.hp w.heap.size s d (by simp)) (hz.over h.bel hz0) hfi)
    (fun (W : World) (b1 : Nat) (t1 : Hs) (b2 : Nat) (t2 : Hs) (b3 : Nat) (t3 : Hs) (b4 : Nat) (t4 : Hs) (b5 : Nat) (t5 : Hs) (h : Lx w W none 0 (fun _ => Ls.noSl) noCaches [(b5, t5, (clR s d k).d), (b4, t4, (clR s d k).d), (b3, t3, (dirR s d a).d), (b2, t2, (dirR s d a).d), (b1, t1, d), (w.heap.size, s, d)]) => ron_any s d W k (h.hp w.heap.size s d (by simp)) hfi)
    (fun (W : World) (b1 : Nat) (t1 : Hs) (b2 : Nat) (t2 : Hs) (b3 : Nat) (t3 : Hs) (b4 : Nat) (t4 : Hs) (b5 : Nat) (t5 : Hs) (h : Lx w W none 0 (fun _ => Ls.noSl) noCaches [(b5, t5, (clR s d k).d), (b4, t4, (clR s d k).d), (b3, t3, (dirR s d a).d), (b2, t2, (dirR s d a).d), (b1, t1, d), (w.heap.size, s, d)]) => next_any s d W k a (h.hp w.heap.size s d (by simp)) (hz.over h.bel hz0) hfi)
    (fun (W : World) (b1 : Nat) (t1 : Hs) (b2 : Nat) (t2 : Hs) (b3 : Nat) (t3 : Hs) (b4 : Nat) (t4 : Hs) (b5 : Nat) (t5 : Hs) (h : Lx w W none 0 (fun _ => Ls.noSl) noCaches [(b5, t5, (clR s d k).d), (b4, t4, (clR s d k).d), (b3, t3, (dirR s d a).d), (b2, t2, (dirR s d a).d), (b1, t1, d), (w.heap.size, s, d)]) => rnext_any s d W k a (h.hp w.heap.size s d (by simp)) hfi)
    (fun W b1 t1 b2 t2 b3 t3 b4 t4 b5 t5 l1 h => same_rz (r := ⟨d, s.w.n, s.p.n, s.c.n, 0⟩) (h.hp (w.heap.size) s d (by simp)) (h.hp b1 t1 d (by simp)) ⟨rfl, rfl, rfl⟩ ⟨l1.1, l1.2.1, l1.2.2.2⟩ (by show s.w.n ≤ _; omega) (by show s.p.n ≤ _; omega) (by show s.c.n ≤ _; omega) hFl)
    (fun (W : World) (b1 : Nat) (t1 : Hs) (b2 : Nat) (t2 : Hs) (b3 : Nat) (t3 : Hs) (b4 : Nat) (t4 : Hs) (b5 : Nat) (t5 : Hs) (h : Lx w W none 0 (fun _ => Ls.noSl) noCaches [(b5, t5, (clR s d k).d), (b4, t4, (clR s d k).d), (b3, t3, (dirR s d a).d), (b2, t2, (dirR s d a).d), (b1, t1, d), (w.heap.size, s, d)]) => is_any s d W a (h.hp w.heap.size s d (by simp)) (hz.over h.bel hz0) hfi ha2)
    (fun (W : World) (b1 : Nat) (t1 : Hs) (b2 : Nat) (t2 : Hs) (b3 : Nat) (t3 : Hs) (b4 : Nat) (t4 : Hs) (b5 : Nat) (t5 : Hs) (h : Lx w W none 0 (fun _ => Ls.noSl) noCaches [(b5, t5, (clR s d k).d), (b4, t4, (clR s d k).d), (b3, t3, (dirR s d a).d), (b2, t2, (dirR s d a).d), (b1, t1, d), (w.heap.size, s, d)]) => ris_any s d W a (h.hp w.heap.size s d (by simp)) hfi) hz hp
-- the frame (hp10frame.py)
set_option maxRecDepth 100000 in
theorem lifted (os : Os) (started : os.Started) (H : Type) (enc : TypeId × Value → H) :
    ReturnsInHanded {} Tryz.checked os 5 .any (fun w args => (Rows.cardsTellsSpec.pre enc Tryz.prog Tryz.f5 [] false w args ∧ laidMetH Tryz.prog laidSizes w) ∧ sizedMet enc Tryz.prog Tryz.f5 (OpenSpec.ofChange Rows.cardsTellsSpec) false w args)
      (Rows.cardsTellsSpec.post enc Tryz.prog Tryz.f5 false true false false) := by
  refine returnsInHanded_of_change_and (C := Tryz.checked) (X := fun w _ => laidMetH Tryz.prog laidSizes w) (fun _ _ _ hh h => h.of_heap hh) own started (by kernel_rfl) Tryz.func5
    (ChangeSpec.witness_shaped (enc := enc) (C := Tryz.checked) (os := os) (X := fun w _ => laidMetH Tryz.prog laidSizes w) false (World.doorLaid Tryz.prog 400 os) #[.agg #[.slice none 0 0, .slice none 0 0, .slice none 0 0, .slice none 0 0, .slice none 0 0, .slice none 0 0], .int .i64 0, .int .i64 0] 8 rfl (World.shaped_of_RefB (by kernel_rfl) (by kernel_rfl)) (by kernel_rfl) (by kernel_rfl) (by kernel_rfl) (door_met os _)) ?_
  intro W base args ds gs before hval0 hW _ _ hL _
  have hval : ∀ (j : Nat) t v, Tryz.f5.params[j]? = some t → args[j]? = some v → Value.okWide Tryz.prog W .any base t v := hval0
  have hW' := hW
  obtain ⟨p, q, hA0, hV, rfl, hfz, hnd⟩ := hW
  have hA : DataW.TrodAll enc Tryz.prog W 0 (fun _ => true) true Tryz.f5.params.toList args.toList ds p := hA0
  rw [Tryz.params5] at hA hval
  obtain ⟨v0, vs0, d0, ds0, p0, q0, hargs, rfl, rfl, h0, r0⟩ := trodAll_cons hA
  obtain ⟨v1, vs1, d1, ds1, p1, q1, rfl, rfl, rfl, h1, r1⟩ := trodAll_cons r0
  obtain ⟨v2, vs2, d2, ds2, p2, q2, rfl, rfl, rfl, h2, r2⟩ := trodAll_cons r1
  obtain ⟨rfl, rfl, rfl⟩ := trodAll_nil r2
  obtain rfl : args = #[v0, v1, v2] := by cases args; simp_all
  obtain ⟨rfl, rfl⟩ := trodVars_none hV
  have k0 := h0
  have lt0 : ∀ x ∈ p0, x.block < W.heap.size := by obtain ⟨m, hm⟩ := k0; exact DataW.trod_lt m _ _ _ hm
  obtain ⟨s0, z0, rfl, w0, f0, b0⟩ := heap_of8 (hval 0 28 v0 rfl rfl) h0
  obtain ⟨a1, rfl, rfl, rfl, w1⟩ := open_int Tryz.underlying3 (hval 1 3 v1 rfl rfl) h1
  obtain ⟨a2, rfl, rfl, rfl, w2⟩ := open_int Tryz.underlying3 (hval 2 3 v2 rfl rfl) h2
  clear hA0 hval0
  refine (walk s0 z0 a1 a2 W (of_laid hL) w0 f0 b0 w1 w2).mono fun e W' ⟨he, bel⟩ => ?_
  subst he
  exact ⟨_, rfl, _, _, _, [], _, [], hW', trodAll_mk1 (shut_bool Tryz.underlying4 _), (trodAll_cons_mk (Below.trod laidOut (by kernel_rfl) (of_decide_eq_true (by kernel_rfl)) k0 bel lt0) (trodAll_cons_mk (shut_int Tryz.underlying3 w1) (trodAll_cons_mk (shut_int Tryz.underlying3 w2) trodAll_mk0))), rfl, bel.frame _, fun h => by cases h⟩

theorem over : Rows.CardsTellsSaid :=
  OpenClaim.holds_of_wide 5 Tryz.f5 rfl rfl rfl rfl rfl rfl rfl ⟨rfl, rfl, rfl, rfl, rfl⟩ rfl rfl rfl rfl rfl (by kernel_rfl) Tryz.func5 (by kernel_rfl)
    (of_decide_eq_true (by kernel_rfl)) (by unfold Func.isWrapper; first | (rw [if_pos (by decide +kernel)]; kernel_rfl) | (rw [if_neg (by decide +kernel)]; exact ⟨rfl, rfl⟩))
    (fun os started H enc _ => lifted os started H enc)

/-- The statement: the card. -/
theorem proved : Rows.CardsTellsCardSaid :=
  Claim7.holds_tied_plain_at .later [] [.data] true Rows.cardsTellsCard.stood.harness false
    over (fun _ h => by cases h) (by kernel_rfl) (fun _ h => by cases h) cardsTells_row_tie rfl ⟨rfl, rfl⟩ (by kernel_rfl) rfl
    (fun f fn hf hfn => by
      obtain rfl : f = 5 := Option.some.inj ((show Tryz.prog.funcNamed "ragpicker/ragpickerlaw10.CardsTells" = some 5 by kernel_rfl).symm.trans hf) |>.symm
      obtain rfl : fn = Tryz.f5 := (Option.some.inj (Tryz.func5.symm.trans hfn)).symm
      exact ⟨by kernel_rfl, fun j t ht => by
        rw [Tryz.params5] at ht
        have hm : t ∈ [28, 3, 3] := by simpa using Array.mem_of_getElem? ht
        have hall : ([28, 3, 3].all fun u => !Tryz.prog.wantsStandIn u) = true := by kernel_rfl
        exact (show Tryz.prog.wantsStandIn t = false by simpa using List.all_eq_true.1 hall t hm)⟩)
    (by kernel_rfl)
#print axioms proved
end Go.Proofs.YtmalopciboikhaaGreatDoor.CardsTells
