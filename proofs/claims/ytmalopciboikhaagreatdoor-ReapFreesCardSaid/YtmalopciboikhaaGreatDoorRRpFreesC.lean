/-
  RpFreesC: ReapFrees's walks.
-/
import Derived.Test.YtmalopciboikhaaGreatDoorHpRJ
import Derived.Test.YtmalopciboikhaaGreatDoorRRpFree
import Derived.Test.YtmalopciboikhaaGreatDoorHpRE
namespace Go.Proofs.YtmalopciboikhaaGreatDoor.ReapFrees
open Go.Proofs.YtmalopciboikhaaGreatDoor Go.Proofs.YtmalopciboikhaaGreatDoor.Rp
open Go.ChangeShapes Go.WideShapes Go.ChangeAt Go.RowKit
set_option maxRecDepth 100000


structure Cx (w W : World) (u : Nat → Ls.Sl) (G : Nat → List Int) (hs : List (Nat × Hs × Hd_)) : Prop where
  bel : Below w.heap.size w W
  cb : Ls.Box3 W (w.heap.size + 1) u
  l3 : Ls.L3 W W.heap.size u G
  h : ∀ x ∈ hs, HBox W x.1 x.2.1 ∧ Hp W W.heap.size x.2.1 x.2.2
section
variable {w w3 W W' : World} {s t : Hs} {d d1 : Hd_} {b : Nat} {u : Nat → Ls.Sl} {G : Nat → List Int} {hs : List (Nat × Hs × Hd_)}
theorem Cx.next (h : Cx w W u G hs) (hb : Below W.heap.size W W') : Cx w W' u G hs := ⟨h.bel.trans (hb.mono h.bel.size), h.cb.next hb, h.l3.next hb, fun x hx => ⟨(h.h x hx).1.next hb, (h.h x hx).2.next hb⟩⟩
theorem Cx.at (h : Cx w W u G hs) (b : Nat) (s : Hs) (d : Hd_) (hm : (b, s, d) ∈ hs) : HBox W b s := (h.h _ hm).1
theorem Cx.hp (h : Cx w W u G hs) (b : Nat) (s : Hs) (d : Hd_) (hm : (b, s, d) ∈ hs) : Hp W W.heap.size s d := (h.h _ hm).2
theorem Cx.add (h : Cx w w3 u G hs) (k : Nw w3 W b t d) : Cx w W u G ((b, t, d) :: hs) := by
  have h1 := h.next k.bel
  refine ⟨h1.bel, h1.cb, h1.l3, fun x hx => ?_⟩
  rcases List.mem_cons.1 hx with rfl | hx
  · exact ⟨k.box, k.hp⟩
  · exact h1.h x hx
theorem cx_start (hp : Hp w w.heap.size s d) (l3 : Ls.L3 w w.heap.size u G) (h : W = (w.alloc (.cells #[.slice s.w.a s.w.n s.w.c, .slice s.p.a s.p.n s.p.c, .slice (s.u 0).a (s.u 0).n (s.u 0).c, .slice (s.u 1).a (s.u 1).n (s.u 1).c, .slice (s.u 2).a (s.u 2).n (s.u 2).c, .slice s.c.a s.c.n s.c.c] 28)).alloc (.cells #[.slice (u 0).a (u 0).n (u 0).c, .slice (u 1).a (u 1).n (u 1).c, .slice (u 2).a (u 2).n (u 2).c] 25)) : Cx w W u G [(w.heap.size, s, d)] := by
  obtain ⟨W1, h1⟩ : ∃ W1, W1 = w.alloc (.cells #[.slice s.w.a s.w.n s.w.c, .slice s.p.a s.p.n s.p.c, .slice (s.u 0).a (s.u 0).n (s.u 0).c, .slice (s.u 1).a (s.u 1).n (s.u 1).c, .slice (s.u 2).a (s.u 2).n (s.u 2).c, .slice s.c.a s.c.n s.c.c] 28) := ⟨_, rfl⟩
  rw [← h1] at h
  have z1 : W1.heap.size = w.heap.size + 1 := by rw [h1]; simp
  have b1 : Below w.heap.size w W1 := by rw [h1]; exact (Below.refl _ _).alloc (Nat.le_refl _) _
  have b2 : Below W1.heap.size W1 W := by rw [h]; exact (Below.refl _ _).alloc (Nat.le_refl _) _
  have x2 : Ls.Box3 W (w.heap.size + 1) u := by rw [h, ← z1]; exact Ls.Box3.new W1 u _
  refine ⟨b1.trans (b2.mono (by omega)), x2, (l3.next b1).next b2, fun x hx => ?_⟩
  obtain rfl := List.mem_singleton.1 hx
  exact ⟨(by rw [h1]; exact HBox.new w s _ : HBox W1 w.heap.size s).next b2, (hp.next b1).next b2⟩
end
section
variable (s : Hs) (d : Hd_) (u : Nat → Ls.Sl) (G : Nat → List Int) (a : Int) (w : World)
theorem few_one (W : World) (h : Cx w W u G [(w.heap.size, s, d)]) : Calls Tryz.prog 15 #[(.agg #[.slice s.w.a s.w.n s.w.c, .slice s.p.a s.p.n s.p.c, .slice (s.u 0).a (s.u 0).n (s.u 0).c, .slice (s.u 1).a (s.u 1).n (s.u 1).c, .slice (s.u 2).a (s.u 2).n (s.u 2).c, .slice s.c.a s.c.n s.c.c]), .slice (some ⟨W.heap.size, 0, none⟩) 1 1] (W.alloc (.cells #[.slice (u 0).a (u 0).n (u 0).c, .slice (u 1).a (u 1).n (u 1).c, .slice (u 2).a (u 2).n (u 2).c] 25)) fun e w' => e = .returned (.bool (Rp.fewL s (fun _ => u) 1)) ∧ Below (W.alloc (.cells #[.slice (u 0).a (u 0).n (u 0).c, .slice (u 1).a (u 1).n (u 1).c, .slice (u 2).a (u 2).n (u 2).c] 25)).heap.size (W.alloc (.cells #[.slice (u 0).a (u 0).n (u 0).c, .slice (u 1).a (u 1).n (u 1).c, .slice (u 2).a (u 2).n (u 2).c] 25)) w' :=
  few9_any s (some ⟨W.heap.size, 0, none⟩) 1 1 (fun _ => u) (fun _ => G) (W.alloc (.cells #[.slice (u 0).a (u 0).n (u 0).c, .slice (u 1).a (u 1).n (u 1).c, .slice (u 2).a (u 2).n (u 2).c] 25)) (by decide) (lrow_of (own_one W u) (by simp) (fun _ _ => h.l3.next ((Below.refl W.heap.size W).alloc (Nat.le_refl _) (.cells #[.slice (u 0).a (u 0).n (u 0).c, .slice (u 1).a (u 1).n (u 1).c, .slice (u 2).a (u 2).n (u 2).c] 25))))
set_option maxHeartbeats 1000000 in
theorem walk_few (hf : Rp.fewL s (fun _ => u) 1 = false) (hz : Cl.Sz w) (hp : Hp w w.heap.size s d) (hl : Ls.L3 w w.heap.size u G) : Calls Tryz.prog 4 #[(.agg #[.slice s.w.a s.w.n s.w.c, .slice s.p.a s.p.n s.p.c, .slice (s.u 0).a (s.u 0).n (s.u 0).c, .slice (s.u 1).a (s.u 1).n (s.u 1).c, .slice (s.u 2).a (s.u 2).n (s.u 2).c, .slice s.c.a s.c.n s.c.c]), (.agg #[.slice (u 0).a (u 0).n (u 0).c, .slice (u 1).a (u 1).n (u 1).c, .slice (u 2).a (u 2).n (u 2).c]), .int .i64 a] w fun e w' => e = .returned (.bool true) ∧ Below w.heap.size w w' := by
  have HZ := Lib.hid hz
  have hz0 := hz.pos
  have HP := Lib.hid hp
  have HL := Lib.hid hl
  have FW := Lib.hid (few_one s d u G w)
  rw [hf] at FW
  clear hz hp hl hf
  go_enter Tryz.func4, Tryz.ntmps4
  go_wp2_with fail
  obtain ⟨W1, hW1⟩ : ∃ W1, W1 = (w.alloc (.cells #[.slice s.w.a s.w.n s.w.c, .slice s.p.a s.p.n s.p.c, .slice (s.u 0).a (s.u 0).n (s.u 0).c, .slice (s.u 1).a (s.u 1).n (s.u 1).c, .slice (s.u 2).a (s.u 2).n (s.u 2).c, .slice s.c.a s.c.n s.c.c] 28)).alloc (.cells #[.slice (u 0).a (u 0).n (u 0).c, .slice (u 1).a (u 1).n (u 1).c, .slice (u 2).a (u 2).n (u 2).c] 25) := ⟨_, rfl⟩
  have L1 := Lib.hid (cx_start HP.out HL.out hW1)
  rw [← hW1]
  clear hW1
  refine (Rp.awake_any W1 (HZ.out.over L1.out.bel hz0)).mono ?_
  rintro e9 w1 ⟨rfl, hb1⟩
  have L2 := Lib.hid (L1.out.next hb1)
  clear hb1 L1
  have q0 := (L2.out.at (w.heap.size) (s) (d) (by simp)).c0
  have q1 := (L2.out.at (w.heap.size) (s) (d) (by simp)).c1
  have q2 := (L2.out.at (w.heap.size) (s) (d) (by simp)).c2
  have q3 := (L2.out.at (w.heap.size) (s) (d) (by simp)).c3
  have q4 := (L2.out.at (w.heap.size) (s) (d) (by simp)).c4
  have q5 := (L2.out.at (w.heap.size) (s) (d) (by simp)).c5
  have ql := (L2.out.at (w.heap.size) (s) (d) (by simp)).lt
  have xc0 := L2.out.cb.cell 0 (by decide)
  have xc1 := L2.out.cb.cell 1 (by decide)
  have xc2 := L2.out.cb.cell 2 (by decide)
  have xcl := L2.out.cb.lt
  go_wp2_with fail
  refine (FW.out w1 L2.out).mono ?_
  rintro e9 w2 ⟨rfl, hb2⟩
  have L3 := Lib.hid ((L2.out.next ((Below.refl w1.heap.size w1).alloc (Nat.le_refl _) (.cells #[.slice (u 0).a (u 0).n (u 0).c, .slice (u 1).a (u 1).n (u 1).c, .slice (u 2).a (u 2).n (u 2).c] 25))).next hb2)
  clear hb2 L2
  clear xc0 xc1 xc2 xcl
  clear q0 q1 q2 q3 q4 q5 ql
  go_wp2
  go_ret
  exact ⟨rfl, L3.out.bel⟩
set_option maxHeartbeats 8000000 in
theorem core (e1 : Int) (n1 p1 c1 : Nat) (d1 : Hd_) (e2 : Int) (n2 p2 c2 : Nat) (d2 : Hd_) (e3 : Int) (n3 p3 c3 : Nat) (d3 : Hd_) (hf : Rp.fewL s (fun _ => u) 1 = true) (hO : ∀ W hs, (w.heap.size, s, d) ∈ hs → Cx w W u G hs → Calls Tryz.prog 8 #[(.agg #[.slice s.w.a s.w.n s.w.c, .slice s.p.a s.p.n s.p.c, .slice (s.u 0).a (s.u 0).n (s.u 0).c, .slice (s.u 1).a (s.u 1).n (s.u 1).c, .slice (s.u 2).a (s.u 2).n (s.u 2).c, .slice s.c.a s.c.n s.c.c])] W (RoOut W s d)) (hC1a : ∀ W hs, (w.heap.size, s, d) ∈ hs → Cx w W u G hs → Calls Tryz.prog 16 #[(.agg #[.slice s.w.a s.w.n s.w.c, .slice s.p.a s.p.n s.p.c, .slice (s.u 0).a (s.u 0).n (s.u 0).c, .slice (s.u 1).a (s.u 1).n (s.u 1).c, .slice (s.u 2).a (s.u 2).n (s.u 2).c, .slice s.c.a s.c.n s.c.c]), .int .i64 a] W (RkOut W e1 n1 p1 c1 d1)) (hC1b : ∀ W hs, (w.heap.size, s, d) ∈ hs → Cx w W u G hs → Calls Tryz.prog 17 #[(.agg #[.slice s.w.a s.w.n s.w.c, .slice s.p.a s.p.n s.p.c, .slice (s.u 0).a (s.u 0).n (s.u 0).c, .slice (s.u 1).a (s.u 1).n (s.u 1).c, .slice (s.u 2).a (s.u 2).n (s.u 2).c, .slice s.c.a s.c.n s.c.c]), .int .i64 a] W (RkOut W e1 n1 p1 c1 d1)) (hC2a : ∀ W hs, (w.heap.size, s, d) ∈ hs → Cx w W u G hs → Calls Tryz.prog 18 #[(.agg #[.slice s.w.a s.w.n s.w.c, .slice s.p.a s.p.n s.p.c, .slice (s.u 0).a (s.u 0).n (s.u 0).c, .slice (s.u 1).a (s.u 1).n (s.u 1).c, .slice (s.u 2).a (s.u 2).n (s.u 2).c, .slice s.c.a s.c.n s.c.c]), (.agg #[.slice (u 0).a (u 0).n (u 0).c, .slice (u 1).a (u 1).n (u 1).c, .slice (u 2).a (u 2).n (u 2).c])] W (RkOut W e2 n2 p2 c2 d2)) (hC2b : ∀ W hs, (w.heap.size, s, d) ∈ hs → Cx w W u G hs → Calls Tryz.prog 19 #[(.agg #[.slice s.w.a s.w.n s.w.c, .slice s.p.a s.p.n s.p.c, .slice (s.u 0).a (s.u 0).n (s.u 0).c, .slice (s.u 1).a (s.u 1).n (s.u 1).c, .slice (s.u 2).a (s.u 2).n (s.u 2).c, .slice s.c.a s.c.n s.c.c]), (.agg #[.slice (u 0).a (u 0).n (u 0).c, .slice (u 1).a (u 1).n (u 1).c, .slice (u 2).a (u 2).n (u 2).c])] W (RkOut W e2 n2 p2 c2 d2)) (hC3a : ∀ W hs, (w.heap.size, s, d) ∈ hs → Cx w W u G hs → Calls Tryz.prog 20 #[(.agg #[.slice s.w.a s.w.n s.w.c, .slice s.p.a s.p.n s.p.c, .slice (s.u 0).a (s.u 0).n (s.u 0).c, .slice (s.u 1).a (s.u 1).n (s.u 1).c, .slice (s.u 2).a (s.u 2).n (s.u 2).c, .slice s.c.a s.c.n s.c.c])] W (RkOut W e3 n3 p3 c3 d3)) (hC3b : ∀ W hs, (w.heap.size, s, d) ∈ hs → Cx w W u G hs → Calls Tryz.prog 19 #[(.agg #[.slice s.w.a s.w.n s.w.c, .slice s.p.a s.p.n s.p.c, .slice (s.u 0).a (s.u 0).n (s.u 0).c, .slice (s.u 1).a (s.u 1).n (s.u 1).c, .slice (s.u 2).a (s.u 2).n (s.u 2).c, .slice s.c.a s.c.n s.c.c]), .agg #[.slice none 0 0, .slice none 0 0, .slice none 0 0]] W (RkOut W e3 n3 p3 c3 d3)) (hS0 : ∀ W (t t' : Hs), (t.w.n = s.w.n ∧ t.p.n = s.p.n ∧ t.c.n = s.c.n) → (t'.w.n = s.w.n ∧ t'.p.n = s.p.n ∧ t'.c.n = s.c.n) → Hp W W.heap.size t d → Hp W W.heap.size t' d → Calls Tryz.prog 11 #[(.agg #[.slice t.w.a t.w.n t.w.c, .slice t.p.a t.p.n t.p.c, .slice (t.u 0).a (t.u 0).n (t.u 0).c, .slice (t.u 1).a (t.u 1).n (t.u 1).c, .slice (t.u 2).a (t.u 2).n (t.u 2).c, .slice t.c.a t.c.n t.c.c]), (.agg #[.slice t'.w.a t'.w.n t'.w.c, .slice t'.p.a t'.p.n t'.p.c, .slice (t'.u 0).a (t'.u 0).n (t'.u 0).c, .slice (t'.u 1).a (t'.u 1).n (t'.u 1).c, .slice (t'.u 2).a (t'.u 2).n (t'.u 2).c, .slice t'.c.a t'.c.n t'.c.c])] W fun e w' => e = .returned (.bool true) ∧ Below W.heap.size W w') (hS1 : ∀ W (t t' : Hs), (t.w.n = n1 ∧ t.p.n = p1 ∧ t.c.n = c1) → (t'.w.n = n1 ∧ t'.p.n = p1 ∧ t'.c.n = c1) → Hp W W.heap.size t d1 → Hp W W.heap.size t' d1 → Calls Tryz.prog 11 #[(.agg #[.slice t.w.a t.w.n t.w.c, .slice t.p.a t.p.n t.p.c, .slice (t.u 0).a (t.u 0).n (t.u 0).c, .slice (t.u 1).a (t.u 1).n (t.u 1).c, .slice (t.u 2).a (t.u 2).n (t.u 2).c, .slice t.c.a t.c.n t.c.c]), (.agg #[.slice t'.w.a t'.w.n t'.w.c, .slice t'.p.a t'.p.n t'.p.c, .slice (t'.u 0).a (t'.u 0).n (t'.u 0).c, .slice (t'.u 1).a (t'.u 1).n (t'.u 1).c, .slice (t'.u 2).a (t'.u 2).n (t'.u 2).c, .slice t'.c.a t'.c.n t'.c.c])] W fun e w' => e = .returned (.bool true) ∧ Below W.heap.size W w') (hS2 : ∀ W (t t' : Hs), (t.w.n = n2 ∧ t.p.n = p2 ∧ t.c.n = c2) → (t'.w.n = n2 ∧ t'.p.n = p2 ∧ t'.c.n = c2) → Hp W W.heap.size t d2 → Hp W W.heap.size t' d2 → Calls Tryz.prog 11 #[(.agg #[.slice t.w.a t.w.n t.w.c, .slice t.p.a t.p.n t.p.c, .slice (t.u 0).a (t.u 0).n (t.u 0).c, .slice (t.u 1).a (t.u 1).n (t.u 1).c, .slice (t.u 2).a (t.u 2).n (t.u 2).c, .slice t.c.a t.c.n t.c.c]), (.agg #[.slice t'.w.a t'.w.n t'.w.c, .slice t'.p.a t'.p.n t'.p.c, .slice (t'.u 0).a (t'.u 0).n (t'.u 0).c, .slice (t'.u 1).a (t'.u 1).n (t'.u 1).c, .slice (t'.u 2).a (t'.u 2).n (t'.u 2).c, .slice t'.c.a t'.c.n t'.c.c])] W fun e w' => e = .returned (.bool true) ∧ Below W.heap.size W w') (hS3 : ∀ W (t t' : Hs), (t.w.n = n3 ∧ t.p.n = p3 ∧ t.c.n = c3) → (t'.w.n = n3 ∧ t'.p.n = p3 ∧ t'.c.n = c3) → Hp W W.heap.size t d3 → Hp W W.heap.size t' d3 → Calls Tryz.prog 11 #[(.agg #[.slice t.w.a t.w.n t.w.c, .slice t.p.a t.p.n t.p.c, .slice (t.u 0).a (t.u 0).n (t.u 0).c, .slice (t.u 1).a (t.u 1).n (t.u 1).c, .slice (t.u 2).a (t.u 2).n (t.u 2).c, .slice t.c.a t.c.n t.c.c]), (.agg #[.slice t'.w.a t'.w.n t'.w.c, .slice t'.p.a t'.p.n t'.p.c, .slice (t'.u 0).a (t'.u 0).n (t'.u 0).c, .slice (t'.u 1).a (t'.u 1).n (t'.u 1).c, .slice (t'.u 2).a (t'.u 2).n (t'.u 2).c, .slice t'.c.a t'.c.n t'.c.c])] W fun e w' => e = .returned (.bool true) ∧ Below W.heap.size W w') (hz : Cl.Sz w) (hp : Hp w w.heap.size s d) (hl : Ls.L3 w w.heap.size u G) : Calls Tryz.prog 4 #[(.agg #[.slice s.w.a s.w.n s.w.c, .slice s.p.a s.p.n s.p.c, .slice (s.u 0).a (s.u 0).n (s.u 0).c, .slice (s.u 1).a (s.u 1).n (s.u 1).c, .slice (s.u 2).a (s.u 2).n (s.u 2).c, .slice s.c.a s.c.n s.c.c]), (.agg #[.slice (u 0).a (u 0).n (u 0).c, .slice (u 1).a (u 1).n (u 1).c, .slice (u 2).a (u 2).n (u 2).c]), .int .i64 a] w fun e w' => e = .returned (.bool true) ∧ Below w.heap.size w w' := by
  have KO := Lib.hid hO
  have K1a := Lib.hid hC1a
  have K1b := Lib.hid hC1b
  have K2a := Lib.hid hC2a
  have K2b := Lib.hid hC2b
  have K3a := Lib.hid hC3a
  have K3b := Lib.hid hC3b
  have S0 := Lib.hid hS0
  have S1 := Lib.hid hS1
  have S2 := Lib.hid hS2
  have S3 := Lib.hid hS3
  clear hO hC1a hC1b hC2a hC2b hC3a hC3b hS0 hS1 hS2 hS3
  have q1 : (e1 == e1) = true := by simp
  have q2 : (e2 == e2) = true := by simp
  have q3 : (e3 == e3) = true := by simp
  have HZ := Lib.hid hz
  have hz0 := hz.pos
  have HP := Lib.hid hp
  have HL := Lib.hid hl
  have FW := Lib.hid (few_one s d u G w)
  rw [hf] at FW
  clear hz hp hl hf
  go_enter Tryz.func4, Tryz.ntmps4
  go_wp2_with fail
  obtain ⟨W1, hW1⟩ : ∃ W1, W1 = (w.alloc (.cells #[.slice s.w.a s.w.n s.w.c, .slice s.p.a s.p.n s.p.c, .slice (s.u 0).a (s.u 0).n (s.u 0).c, .slice (s.u 1).a (s.u 1).n (s.u 1).c, .slice (s.u 2).a (s.u 2).n (s.u 2).c, .slice s.c.a s.c.n s.c.c] 28)).alloc (.cells #[.slice (u 0).a (u 0).n (u 0).c, .slice (u 1).a (u 1).n (u 1).c, .slice (u 2).a (u 2).n (u 2).c] 25) := ⟨_, rfl⟩
  have L1 := Lib.hid (cx_start HP.out HL.out hW1)
  rw [← hW1]
  clear hW1
  refine (Rp.awake_any W1 (HZ.out.over L1.out.bel hz0)).mono ?_
  rintro e9 w1 ⟨rfl, hb1⟩
  have L2 := Lib.hid (L1.out.next hb1)
  clear hb1 L1
  have q0 := (L2.out.at (w.heap.size) (s) (d) (by simp)).c0
  have q1 := (L2.out.at (w.heap.size) (s) (d) (by simp)).c1
  have q2 := (L2.out.at (w.heap.size) (s) (d) (by simp)).c2
  have q3 := (L2.out.at (w.heap.size) (s) (d) (by simp)).c3
  have q4 := (L2.out.at (w.heap.size) (s) (d) (by simp)).c4
  have q5 := (L2.out.at (w.heap.size) (s) (d) (by simp)).c5
  have ql := (L2.out.at (w.heap.size) (s) (d) (by simp)).lt
  have xc0 := L2.out.cb.cell 0 (by decide)
  have xc1 := L2.out.cb.cell 1 (by decide)
  have xc2 := L2.out.cb.cell 2 (by decide)
  have xcl := L2.out.cb.lt
  go_wp2_with fail
  refine (FW.out w1 L2.out).mono ?_
  rintro e9 w2 ⟨rfl, hb2⟩
  have L3 := Lib.hid ((L2.out.next ((Below.refl w1.heap.size w1).alloc (Nat.le_refl _) (.cells #[.slice (u 0).a (u 0).n (u 0).c, .slice (u 1).a (u 1).n (u 1).c, .slice (u 2).a (u 2).n (u 2).c] 25))).next hb2)
  clear hb2 L2
  clear xc0 xc1 xc2 xcl
  clear q0 q1 q2 q3 q4 q5 ql
  have q0 := (L3.out.at (w.heap.size) (s) (d) (by simp)).c0
  have q1 := (L3.out.at (w.heap.size) (s) (d) (by simp)).c1
  have q2 := (L3.out.at (w.heap.size) (s) (d) (by simp)).c2
  have q3 := (L3.out.at (w.heap.size) (s) (d) (by simp)).c3
  have q4 := (L3.out.at (w.heap.size) (s) (d) (by simp)).c4
  have q5 := (L3.out.at (w.heap.size) (s) (d) (by simp)).c5
  have ql := (L3.out.at (w.heap.size) (s) (d) (by simp)).lt
  go_wp2_with fail
  refine (KO.out w2 _ (by simp) L3.out).mono ?_
  rintro e9 w9 ⟨t0, rfl, hp9, hl9, hb9⟩
  have L4 := Lib.hid (L3.out.add (nw_new (ty := 28) hb9 hp9))
  have N0 := Lib.hid hl9
  clear hp9 hb9 hl9 L3
  clear q0 q1 q2 q3 q4 q5 ql
  go_upto_region 6 with fail
  obtain ⟨v0, h0⟩ : ∃ W, W = w9.alloc (.cells #[.slice t0.w.a t0.w.n t0.w.c, .slice t0.p.a t0.p.n t0.p.c, .slice (t0.u 0).a (t0.u 0).n (t0.u 0).c, .slice (t0.u 1).a (t0.u 1).n (t0.u 1).c, .slice (t0.u 2).a (t0.u 2).n (t0.u 2).c, .slice t0.c.a t0.c.n t0.c.c] 28) := ⟨_, rfl⟩
  obtain ⟨b0, h1⟩ : ∃ b, b = w9.heap.size := ⟨_, rfl⟩
  rw [← h0, ← h1] at L4 ⊢
  clear h0 h1
  have q0 := (L4.out.at (w.heap.size) (s) (d) (by simp)).c0
  have q1 := (L4.out.at (w.heap.size) (s) (d) (by simp)).c1
  have q2 := (L4.out.at (w.heap.size) (s) (d) (by simp)).c2
  have q3 := (L4.out.at (w.heap.size) (s) (d) (by simp)).c3
  have q4 := (L4.out.at (w.heap.size) (s) (d) (by simp)).c4
  have q5 := (L4.out.at (w.heap.size) (s) (d) (by simp)).c5
  have ql := (L4.out.at (w.heap.size) (s) (d) (by simp)).lt
  go_wp2_with fail
  refine (K1a.out v0 _ (by simp) L4.out).mono ?_
  rintro e9 w9 ⟨t1, rfl, hp9, hl9, hb9⟩
  have L5 := Lib.hid (L4.out.add (nw_new (ty := 28) hb9 hp9))
  have N1 := Lib.hid hl9
  clear hp9 hb9 hl9 L4
  clear q0 q1 q2 q3 q4 q5 ql
  go_upto_region 7 with fail
  obtain ⟨v1, h0⟩ : ∃ W, W = w9.alloc (.cells #[.slice t1.w.a t1.w.n t1.w.c, .slice t1.p.a t1.p.n t1.p.c, .slice (t1.u 0).a (t1.u 0).n (t1.u 0).c, .slice (t1.u 1).a (t1.u 1).n (t1.u 1).c, .slice (t1.u 2).a (t1.u 2).n (t1.u 2).c, .slice t1.c.a t1.c.n t1.c.c] 28) := ⟨_, rfl⟩
  obtain ⟨b1, h1⟩ : ∃ b, b = w9.heap.size := ⟨_, rfl⟩
  rw [← h0, ← h1] at L5 ⊢
  clear h0 h1
  have q0 := (L5.out.at (w.heap.size) (s) (d) (by simp)).c0
  have q1 := (L5.out.at (w.heap.size) (s) (d) (by simp)).c1
  have q2 := (L5.out.at (w.heap.size) (s) (d) (by simp)).c2
  have q3 := (L5.out.at (w.heap.size) (s) (d) (by simp)).c3
  have q4 := (L5.out.at (w.heap.size) (s) (d) (by simp)).c4
  have q5 := (L5.out.at (w.heap.size) (s) (d) (by simp)).c5
  have ql := (L5.out.at (w.heap.size) (s) (d) (by simp)).lt
  go_wp2_with fail
  refine (K1b.out v1 _ (by simp) L5.out).mono ?_
  rintro e9 w9 ⟨t2, rfl, hp9, hl9, hb9⟩
  have L6 := Lib.hid (L5.out.add (nw_new (ty := 28) hb9 hp9))
  have N2 := Lib.hid hl9
  clear hp9 hb9 hl9 L5
  clear q0 q1 q2 q3 q4 q5 ql
  go_upto_region 8 with fail
  obtain ⟨v2, h0⟩ : ∃ W, W = w9.alloc (.cells #[.slice t2.w.a t2.w.n t2.w.c, .slice t2.p.a t2.p.n t2.p.c, .slice (t2.u 0).a (t2.u 0).n (t2.u 0).c, .slice (t2.u 1).a (t2.u 1).n (t2.u 1).c, .slice (t2.u 2).a (t2.u 2).n (t2.u 2).c, .slice t2.c.a t2.c.n t2.c.c] 28) := ⟨_, rfl⟩
  obtain ⟨b2, h1⟩ : ∃ b, b = w9.heap.size := ⟨_, rfl⟩
  rw [← h0, ← h1] at L6 ⊢
  clear h0 h1
  have q0 := (L6.out.at (b1) (t1) (d1) (by simp)).c0
  have q1 := (L6.out.at (b1) (t1) (d1) (by simp)).c1
  have q2 := (L6.out.at (b1) (t1) (d1) (by simp)).c2
  have q3 := (L6.out.at (b1) (t1) (d1) (by simp)).c3
  have q4 := (L6.out.at (b1) (t1) (d1) (by simp)).c4
  have q5 := (L6.out.at (b1) (t1) (d1) (by simp)).c5
  have ql := (L6.out.at (b1) (t1) (d1) (by simp)).lt
  have y0 := (L6.out.at (b2) (t2) (d1) (by simp)).c0
  have y1 := (L6.out.at (b2) (t2) (d1) (by simp)).c1
  have y2 := (L6.out.at (b2) (t2) (d1) (by simp)).c2
  have y3 := (L6.out.at (b2) (t2) (d1) (by simp)).c3
  have y4 := (L6.out.at (b2) (t2) (d1) (by simp)).c4
  have y5 := (L6.out.at (b2) (t2) (d1) (by simp)).c5
  have yl := (L6.out.at (b2) (t2) (d1) (by simp)).lt
  go_wp2_with fail
  refine (S1.out v2 t1 t2 N1.out N2.out (L6.out.hp (b1) (t1) (d1) (by simp)) (L6.out.hp (b2) (t2) (d1) (by simp))).mono ?_
  rintro e9 x1 ⟨rfl, hb9⟩
  have L7 := Lib.hid (L6.out.next hb9)
  clear hb9 L6
  clear q0 q1 q2 q3 q4 q5 ql
  clear y0 y1 y2 y3 y4 y5 yl
  have q0 := (L7.out.at (w.heap.size) (s) (d) (by simp)).c0
  have q1 := (L7.out.at (w.heap.size) (s) (d) (by simp)).c1
  have q2 := (L7.out.at (w.heap.size) (s) (d) (by simp)).c2
  have q3 := (L7.out.at (w.heap.size) (s) (d) (by simp)).c3
  have q4 := (L7.out.at (w.heap.size) (s) (d) (by simp)).c4
  have q5 := (L7.out.at (w.heap.size) (s) (d) (by simp)).c5
  have ql := (L7.out.at (w.heap.size) (s) (d) (by simp)).lt
  have xc0 := L7.out.cb.cell 0 (by decide)
  have xc1 := L7.out.cb.cell 1 (by decide)
  have xc2 := L7.out.cb.cell 2 (by decide)
  have xcl := L7.out.cb.lt
  go_wp2_with fail
  refine (K2a.out x1 _ (by simp) L7.out).mono ?_
  rintro e9 w9 ⟨t3, rfl, hp9, hl9, hb9⟩
  have L8 := Lib.hid (L7.out.add (nw_new (ty := 28) hb9 hp9))
  have N3 := Lib.hid hl9
  clear hp9 hb9 hl9 L7
  clear xc0 xc1 xc2 xcl
  clear q0 q1 q2 q3 q4 q5 ql
  go_upto_region 10 with fail
  obtain ⟨v3, h0⟩ : ∃ W, W = w9.alloc (.cells #[.slice t3.w.a t3.w.n t3.w.c, .slice t3.p.a t3.p.n t3.p.c, .slice (t3.u 0).a (t3.u 0).n (t3.u 0).c, .slice (t3.u 1).a (t3.u 1).n (t3.u 1).c, .slice (t3.u 2).a (t3.u 2).n (t3.u 2).c, .slice t3.c.a t3.c.n t3.c.c] 28) := ⟨_, rfl⟩
  obtain ⟨b3, h1⟩ : ∃ b, b = w9.heap.size := ⟨_, rfl⟩
  rw [← h0, ← h1] at L8 ⊢
  clear h0 h1
  have q0 := (L8.out.at (w.heap.size) (s) (d) (by simp)).c0
  have q1 := (L8.out.at (w.heap.size) (s) (d) (by simp)).c1
  have q2 := (L8.out.at (w.heap.size) (s) (d) (by simp)).c2
  have q3 := (L8.out.at (w.heap.size) (s) (d) (by simp)).c3
  have q4 := (L8.out.at (w.heap.size) (s) (d) (by simp)).c4
  have q5 := (L8.out.at (w.heap.size) (s) (d) (by simp)).c5
  have ql := (L8.out.at (w.heap.size) (s) (d) (by simp)).lt
  have xc0 := L8.out.cb.cell 0 (by decide)
  have xc1 := L8.out.cb.cell 1 (by decide)
  have xc2 := L8.out.cb.cell 2 (by decide)
  have xcl := L8.out.cb.lt
  go_wp2_with fail
  refine (K2b.out v3 _ (by simp) L8.out).mono ?_
  rintro e9 w9 ⟨t4, rfl, hp9, hl9, hb9⟩
  have L9 := Lib.hid (L8.out.add (nw_new (ty := 28) hb9 hp9))
  have N4 := Lib.hid hl9
  clear hp9 hb9 hl9 L8
  clear xc0 xc1 xc2 xcl
  clear q0 q1 q2 q3 q4 q5 ql
  go_upto_region 11 with fail
  obtain ⟨v4, h0⟩ : ∃ W, W = w9.alloc (.cells #[.slice t4.w.a t4.w.n t4.w.c, .slice t4.p.a t4.p.n t4.p.c, .slice (t4.u 0).a (t4.u 0).n (t4.u 0).c, .slice (t4.u 1).a (t4.u 1).n (t4.u 1).c, .slice (t4.u 2).a (t4.u 2).n (t4.u 2).c, .slice t4.c.a t4.c.n t4.c.c] 28) := ⟨_, rfl⟩
  obtain ⟨b4, h1⟩ : ∃ b, b = w9.heap.size := ⟨_, rfl⟩
  rw [← h0, ← h1] at L9 ⊢
  clear h0 h1
  have q0 := (L9.out.at (b3) (t3) (d2) (by simp)).c0
  have q1 := (L9.out.at (b3) (t3) (d2) (by simp)).c1
  have q2 := (L9.out.at (b3) (t3) (d2) (by simp)).c2
  have q3 := (L9.out.at (b3) (t3) (d2) (by simp)).c3
  have q4 := (L9.out.at (b3) (t3) (d2) (by simp)).c4
  have q5 := (L9.out.at (b3) (t3) (d2) (by simp)).c5
  have ql := (L9.out.at (b3) (t3) (d2) (by simp)).lt
  have y0 := (L9.out.at (b4) (t4) (d2) (by simp)).c0
  have y1 := (L9.out.at (b4) (t4) (d2) (by simp)).c1
  have y2 := (L9.out.at (b4) (t4) (d2) (by simp)).c2
  have y3 := (L9.out.at (b4) (t4) (d2) (by simp)).c3
  have y4 := (L9.out.at (b4) (t4) (d2) (by simp)).c4
  have y5 := (L9.out.at (b4) (t4) (d2) (by simp)).c5
  have yl := (L9.out.at (b4) (t4) (d2) (by simp)).lt
  go_wp2_with fail
  refine (S2.out v4 t3 t4 N3.out N4.out (L9.out.hp (b3) (t3) (d2) (by simp)) (L9.out.hp (b4) (t4) (d2) (by simp))).mono ?_
  rintro e9 x2 ⟨rfl, hb9⟩
  have L10 := Lib.hid (L9.out.next hb9)
  clear hb9 L9
  clear q0 q1 q2 q3 q4 q5 ql
  clear y0 y1 y2 y3 y4 y5 yl
  have q0 := (L10.out.at (w.heap.size) (s) (d) (by simp)).c0
  have q1 := (L10.out.at (w.heap.size) (s) (d) (by simp)).c1
  have q2 := (L10.out.at (w.heap.size) (s) (d) (by simp)).c2
  have q3 := (L10.out.at (w.heap.size) (s) (d) (by simp)).c3
  have q4 := (L10.out.at (w.heap.size) (s) (d) (by simp)).c4
  have q5 := (L10.out.at (w.heap.size) (s) (d) (by simp)).c5
  have ql := (L10.out.at (w.heap.size) (s) (d) (by simp)).lt
  go_wp2_with fail
  refine (K3a.out x2 _ (by simp) L10.out).mono ?_
  rintro e9 w9 ⟨t5, rfl, hp9, hl9, hb9⟩
  have L11 := Lib.hid (L10.out.add (nw_new (ty := 28) hb9 hp9))
  have N5 := Lib.hid hl9
  clear hp9 hb9 hl9 L10
  clear q0 q1 q2 q3 q4 q5 ql
  go_upto_region 13 with fail
  obtain ⟨v5, h0⟩ : ∃ W, W = w9.alloc (.cells #[.slice t5.w.a t5.w.n t5.w.c, .slice t5.p.a t5.p.n t5.p.c, .slice (t5.u 0).a (t5.u 0).n (t5.u 0).c, .slice (t5.u 1).a (t5.u 1).n (t5.u 1).c, .slice (t5.u 2).a (t5.u 2).n (t5.u 2).c, .slice t5.c.a t5.c.n t5.c.c] 28) := ⟨_, rfl⟩
  obtain ⟨b5, h1⟩ : ∃ b, b = w9.heap.size := ⟨_, rfl⟩
  rw [← h0, ← h1] at L11 ⊢
  clear h0 h1
  have q0 := (L11.out.at (w.heap.size) (s) (d) (by simp)).c0
  have q1 := (L11.out.at (w.heap.size) (s) (d) (by simp)).c1
  have q2 := (L11.out.at (w.heap.size) (s) (d) (by simp)).c2
  have q3 := (L11.out.at (w.heap.size) (s) (d) (by simp)).c3
  have q4 := (L11.out.at (w.heap.size) (s) (d) (by simp)).c4
  have q5 := (L11.out.at (w.heap.size) (s) (d) (by simp)).c5
  have ql := (L11.out.at (w.heap.size) (s) (d) (by simp)).lt
  go_wp2_with fail
  refine (K3b.out v5 _ (by simp) L11.out).mono ?_
  rintro e9 w9 ⟨t6, rfl, hp9, hl9, hb9⟩
  have L12 := Lib.hid (L11.out.add (nw_new (ty := 28) hb9 hp9))
  have N6 := Lib.hid hl9
  clear hp9 hb9 hl9 L11
  clear q0 q1 q2 q3 q4 q5 ql
  go_upto_region 14 with fail
  obtain ⟨v6, h0⟩ : ∃ W, W = w9.alloc (.cells #[.slice t6.w.a t6.w.n t6.w.c, .slice t6.p.a t6.p.n t6.p.c, .slice (t6.u 0).a (t6.u 0).n (t6.u 0).c, .slice (t6.u 1).a (t6.u 1).n (t6.u 1).c, .slice (t6.u 2).a (t6.u 2).n (t6.u 2).c, .slice t6.c.a t6.c.n t6.c.c] 28) := ⟨_, rfl⟩
  obtain ⟨b6, h1⟩ : ∃ b, b = w9.heap.size := ⟨_, rfl⟩
  rw [← h0, ← h1] at L12 ⊢
  clear h0 h1
  have q0 := (L12.out.at (b5) (t5) (d3) (by simp)).c0
  have q1 := (L12.out.at (b5) (t5) (d3) (by simp)).c1
  have q2 := (L12.out.at (b5) (t5) (d3) (by simp)).c2
  have q3 := (L12.out.at (b5) (t5) (d3) (by simp)).c3
  have q4 := (L12.out.at (b5) (t5) (d3) (by simp)).c4
  have q5 := (L12.out.at (b5) (t5) (d3) (by simp)).c5
  have ql := (L12.out.at (b5) (t5) (d3) (by simp)).lt
  have y0 := (L12.out.at (b6) (t6) (d3) (by simp)).c0
  have y1 := (L12.out.at (b6) (t6) (d3) (by simp)).c1
  have y2 := (L12.out.at (b6) (t6) (d3) (by simp)).c2
  have y3 := (L12.out.at (b6) (t6) (d3) (by simp)).c3
  have y4 := (L12.out.at (b6) (t6) (d3) (by simp)).c4
  have y5 := (L12.out.at (b6) (t6) (d3) (by simp)).c5
  have yl := (L12.out.at (b6) (t6) (d3) (by simp)).lt
  go_wp2_with fail
  refine (S3.out v6 t5 t6 N5.out N6.out (L12.out.hp (b5) (t5) (d3) (by simp)) (L12.out.hp (b6) (t6) (d3) (by simp))).mono ?_
  rintro e9 x3 ⟨rfl, hb9⟩
  have L13 := Lib.hid (L12.out.next hb9)
  clear hb9 L12
  clear q0 q1 q2 q3 q4 q5 ql
  clear y0 y1 y2 y3 y4 y5 yl
  have q0 := (L13.out.at (w.heap.size) (s) (d) (by simp)).c0
  have q1 := (L13.out.at (w.heap.size) (s) (d) (by simp)).c1
  have q2 := (L13.out.at (w.heap.size) (s) (d) (by simp)).c2
  have q3 := (L13.out.at (w.heap.size) (s) (d) (by simp)).c3
  have q4 := (L13.out.at (w.heap.size) (s) (d) (by simp)).c4
  have q5 := (L13.out.at (w.heap.size) (s) (d) (by simp)).c5
  have ql := (L13.out.at (w.heap.size) (s) (d) (by simp)).lt
  have y0 := (L13.out.at (b0) (t0) (d) (by simp)).c0
  have y1 := (L13.out.at (b0) (t0) (d) (by simp)).c1
  have y2 := (L13.out.at (b0) (t0) (d) (by simp)).c2
  have y3 := (L13.out.at (b0) (t0) (d) (by simp)).c3
  have y4 := (L13.out.at (b0) (t0) (d) (by simp)).c4
  have y5 := (L13.out.at (b0) (t0) (d) (by simp)).c5
  have yl := (L13.out.at (b0) (t0) (d) (by simp)).lt
  go_wp2_with fail
  refine (S0.out x3 s t0 ⟨rfl, rfl, rfl⟩ N0.out (L13.out.hp (w.heap.size) (s) (d) (by simp)) (L13.out.hp (b0) (t0) (d) (by simp))).mono ?_
  rintro e9 x0 ⟨rfl, hb9⟩
  have L14 := Lib.hid (L13.out.next hb9)
  clear hb9 L13
  clear q0 q1 q2 q3 q4 q5 ql
  clear y0 y1 y2 y3 y4 y5 yl
  go_wp2
  go_ret
  exact ⟨rfl, L14.out.bel⟩
end
end Go.Proofs.YtmalopciboikhaaGreatDoor.ReapFrees
