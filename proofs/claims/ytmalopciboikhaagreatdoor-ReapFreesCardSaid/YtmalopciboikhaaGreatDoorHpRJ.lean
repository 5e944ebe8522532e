/-
  Merged texts: RpFew, RpKept, RpLaw.
-/
import Derived.Test.YtmalopciboikhaaGreatDoorHpRG
import Derived.Test.YtmalopciboikhaaGreatDoorHpRI
import Derived.Deep.RegionHeld3
import Derived.BigQuiet
import Derived.Test.YtmalopciboikhaaGreatDoorRRpAwake
section
namespace Go.Proofs.YtmalopciboikhaaGreatDoor.Rp
open Go.Proofs.YtmalopciboikhaaGreatDoor
open Go.RowKit
set_option maxRecDepth 100000

/-- All caches are light. -/
def lights (U : Nat → Nat → Ls.Sl) (m : Nat) : Bool := (List.range m).all fun i => lightB (U i)
def fewL (s : Hs) (U : Nat → Nat → Ls.Sl) (m : Nat) : Bool := (fewH s && lights U m) && decide (m ≤ 4)
theorem lights_succ (U : Nat → Nat → Ls.Sl) (m : Nat) : lights U (m + 1) = (lights U m && lightB (U m)) := by simp [lights, List.range_succ]
theorem few9_any (s : Hs) (A : Option Addr) (n c : Nat) (U : Nat → Nat → Ls.Sl) (F : Nat → Nat → List Int) (w : World) (hn : n ≤ 9223372036854775807) (hl : Ls.LRow w w.heap.size A n U F) :
    Calls Tryz.prog 15 #[(.agg #[.slice s.w.a s.w.n s.w.c, .slice s.p.a s.p.n s.p.c, .slice (s.u 0).a (s.u 0).n (s.u 0).c, .slice (s.u 1).a (s.u 1).n (s.u 1).c, .slice (s.u 2).a (s.u 2).n (s.u 2).c, .slice s.c.a s.c.n s.c.c]), .slice A n c] w fun e w' => e = .returned (.bool (fewL s U n)) ∧ Below w.heap.size w w' := by
  have HL := Lib.hid hl
  clear hl
  go_enter Tryz.func15, Tryz.ntmps15
  go_wp2_with fail
  have b0 := (Below.refl w.heap.size w).alloc (Nat.le_refl _) (.cells #[.slice s.w.a s.w.n s.w.c, .slice s.p.a s.p.n s.p.c, .slice (s.u 0).a (s.u 0).n (s.u 0).c, .slice (s.u 1).a (s.u 1).n (s.u 1).c, .slice (s.u 2).a (s.u 2).n (s.u 2).c, .slice s.c.a s.c.n s.c.c] 28)
  refine (rfew_any s _).mono ?_
  rintro e w1 ⟨rfl, hb1⟩
  have B1 := Lib.hid (b0.trans (hb1.mono b0.size))
  clear b0 hb1
  go_wp2
  go_loopw [5, 6] (fun q i wr => ∃ k : Nat, k ≤ n ∧ q = .bool (fewH s && lights U k) ∧ i = .int .i64 k ∧ Hid (Below w.heap.size w wr)) (fun _ i _ => n - (intOf i).toNat)
  case atStart => exact ⟨0, Nat.zero_le _, by simp [lights], rfl, B1⟩
  case round =>
    obtain ⟨k, hk, rfl, rfl, HB⟩ := hrel
    clear B1
    by_cases hlt : k < n
    · have dq : decide ((k : Int) < n) = true := by simp; omega
      have ik0 : (0 : Int) ≤ k := by omega
      have ik1 : (k : Int) < n := by omega
      have hnx : (fewH s && lights U (k + 1)) = ((fewH s && lights U k) && lightB (U k)) := by rw [lights_succ, Bool.and_assoc]
      have HNX := Lib.hid hnx
      obtain ⟨q, hq⟩ : ∃ q, q = (fewH s && lights U k) := ⟨_, rfl⟩
      rw [← hq] at HNX ⊢
      clear hnx hq
      cases q
      · go_wp2
        go_roundw
        case rel => exact ⟨k + 1, by omega, by rw [HNX.out]; rfl, by go_num, HB⟩
        case measure => simp [intOf]; omega
      · obtain ⟨b, off, rfl, hbl, hc⟩ := HL.out (by omega)
        have h0 := (hc k hlt).1 0 (by decide)
        have h1 := (hc k hlt).1 1 (by decide)
        have h2 := (hc k hlt).1 2 (by decide)
        have c0 := (HB.out.cell (p := ⟨b, off + k * 3 + 0, none⟩) hbl).trans h0
        have c1 := (HB.out.cell (p := ⟨b, off + k * 3 + 1, none⟩) hbl).trans h1
        have c2 := (HB.out.cell (p := ⟨b, off + k * 3 + 2, none⟩) hbl).trans h2
        have cl : b < wr.heap.size := by have := HB.out.size; omega
        rw [Nat.add_zero] at c0
        clear h0 h1 h2 hc
        go_wp2_with fail
        refine (rlight_any (U k) wr).mono ?_
        rintro e9 w5 ⟨rfl, hb5⟩
        have B5 := Lib.hid (HB.out.trans (hb5.mono HB.out.size))
        clear hb5 c0 c1 c2 cl
        go_wp2
        go_roundw
        case rel => exact ⟨k + 1, by omega, by rw [HNX.out]; rfl, by go_num, B5⟩
        case measure => simp [intOf]; omega
    · have dq : decide ((k : Int) < n) = false := by simp; omega
      obtain rfl : k = n := by omega
      have d4 : decide ((k : Int) ≤ 4) = decide (k ≤ 4) := by rw [decide_eq_decide]; omega
      have HE : Hid (fewL s U k = ((fewH s && lights U k) && decide (k ≤ 4))) := Lib.hid rfl
      obtain ⟨q, hq⟩ : ∃ q, q = (fewH s && lights U k) := ⟨_, rfl⟩
      rw [← hq] at HE ⊢
      clear hq hlt
      by_cases h4 : k ≤ 4
      · have d5 : decide ((k : Int) ≤ 4) = true := by simp; omega
        rw [decide_eq_true h4] at HE
        clear d4
        cases q
        · go_wp2
          go_ret
          exact ⟨by rw [HE.out]; rfl, HB.out⟩
        · go_wp2
          go_ret
          exact ⟨by rw [HE.out]; rfl, HB.out⟩
      · have d5 : decide ((k : Int) ≤ 4) = false := by simp; omega
        rw [decide_eq_false h4] at HE
        clear d4
        cases q
        · go_wp2
          go_ret
          exact ⟨by rw [HE.out]; rfl, HB.out⟩
        · go_wp2
          go_ret
          exact ⟨by rw [HE.out]; rfl, HB.out⟩
end Go.Proofs.YtmalopciboikhaaGreatDoor.Rp
end
section
namespace Go.Proofs.YtmalopciboikhaaGreatDoor.Rp
open Go.Proofs.YtmalopciboikhaaGreatDoor
open Go.RowKit
set_option maxRecDepth 100000

structure Kt (w W : World) (s t : Hs) (d d' : Hd_) (A : Option Addr) (n : Nat) (us : List Int) : Prop where
  bel : Below w.heap.size w W
  b1 : HBox W w.heap.size s
  b2 : HBox W (w.heap.size + 1) t
  hp : Hp W W.heap.size s d
  hq : Hp W W.heap.size t d'
  row : Row W W.heap.size A n us
section
variable {w W W' : World} {s t : Hs} {d d' : Hd_} {A : Option Addr} {n : Nat} {us : List Int}
theorem Kt.next (h : Kt w W s t d d' A n us) (hb : Below W.heap.size W W') : Kt w W' s t d d' A n us := ⟨h.bel.trans (hb.mono h.bel.size), h.b1.next hb, h.b2.next hb, h.hp.next hb, h.hq.next hb, row_next h.row hb⟩
end
end Go.Proofs.YtmalopciboikhaaGreatDoor.Rp
end
section
namespace Go.Proofs.YtmalopciboikhaaGreatDoor.Rp
open Go.Proofs.YtmalopciboikhaaGreatDoor
open Go.RowKit
set_option maxRecDepth 100000

theorem bl_call {w W W' : World} (h : Below w.heap.size w W) (hb : Below W.heap.size W W') : Below w.heap.size w W' := h.trans (hb.mono h.size)
structure Lx (w W : World) (A : Option Addr) (n : Nat) (U : Nat → Nat → Ls.Sl) (F : Nat → Nat → List Int) (hs : List (Nat × Hs × Hd_)) : Prop where
  bel : Below w.heap.size w W
  lr : Ls.LRow W W.heap.size A n U F
  h : ∀ x ∈ hs, HBox W x.1 x.2.1 ∧ Hp W W.heap.size x.2.1 x.2.2
section
variable {w w3 W W' : World} {s t t1 t2 : Hs} {d d1 d2 : Hd_} {A : Option Addr} {n b b1 b2 : Nat} {U : Nat → Nat → Ls.Sl} {F : Nat → Nat → List Int} {hs : List (Nat × Hs × Hd_)} {ty : TypeId}
theorem Lx.next (h : Lx w W A n U F hs) (hb : Below W.heap.size W W') : Lx w W' A n U F hs := ⟨h.bel.trans (hb.mono h.bel.size), lrow_more (h.lr.below hb) hb.size, fun x hx => ⟨(h.h x hx).1.next hb, (h.h x hx).2.next hb⟩⟩
theorem Lx.at (h : Lx w W A n U F hs) (b : Nat) (s : Hs) (d : Hd_) (hm : (b, s, d) ∈ hs) : HBox W b s := (h.h _ hm).1
theorem Lx.hp (h : Lx w W A n U F hs) (b : Nat) (s : Hs) (d : Hd_) (hm : (b, s, d) ∈ hs) : Hp W W.heap.size s d := (h.h _ hm).2
/-- A heap in new memory. -/
structure Nw (w3 W : World) (b : Nat) (t : Hs) (d : Hd_) : Prop where
  bel : Below w3.heap.size w3 W
  box : HBox W b t
  hp : Hp W W.heap.size t d
theorem Lx.add (h : Lx w w3 A n U F hs) (k : Nw w3 W b t d) : Lx w W A n U F ((b, t, d) :: hs) := by
  have h1 := h.next k.bel
  refine ⟨h1.bel, h1.lr, fun x hx => ?_⟩
  rcases List.mem_cons.1 hx with rfl | hx
  · exact ⟨k.box, k.hp⟩
  · exact h1.h x hx
theorem nw_new (bel : Below w3.heap.size w3 W) (hp : Hp W W.heap.size t d) : Nw w3 (W.alloc (.cells #[.slice t.w.a t.w.n t.w.c, .slice t.p.a t.p.n t.p.c, .slice (t.u 0).a (t.u 0).n (t.u 0).c, .slice (t.u 1).a (t.u 1).n (t.u 1).c, .slice (t.u 2).a (t.u 2).n (t.u 2).c, .slice t.c.a t.c.n t.c.c] ty)) W.heap.size t d :=
  have b2 : Below W.heap.size W (W.alloc (.cells #[.slice t.w.a t.w.n t.w.c, .slice t.p.a t.p.n t.p.c, .slice (t.u 0).a (t.u 0).n (t.u 0).c, .slice (t.u 1).a (t.u 1).n (t.u 1).c, .slice (t.u 2).a (t.u 2).n (t.u 2).c, .slice t.c.a t.c.n t.c.c] ty)) := (Below.refl _ _).alloc (Nat.le_refl _) _
  ⟨bl_call bel b2, HBox.new W t ty, hp.next b2⟩
end
/-- How great a heap and caches are. -/
structure Lite9 (s : Hs) (d : Hd_) (n : Nat) (F : Nat → Nat → List Int) (B : Nat) : Prop where
  w : s.w.n ≤ 130
  p : s.p.n ≤ 9
  c : s.c.n ≤ 20
  lF : ∀ j, j < 3 → (d.F j).length ≤ B
  lG : ∀ i, i < n → ∀ j, j < 3 → (F i j).length ≤ 70
  n4 : n ≤ 4
  hv : Fit64 d.ws
theorem lite9_few {w : World} {B : Nat} {s : Hs} {d : Hd_} {n : Nat} {A : Option Addr} {U : Nat → Nat → Ls.Sl} {F : Nat → Nat → List Int} (h : fewL s U n = true) (hp : Hp w B s d) (hl : Ls.LRow w B A n U F) (hv : Fit64 d.ws) : Lite9 s d n F 70 := by
  unfold fewL lights at h
  simp only [Bool.and_eq_true, decide_eq_true_eq] at h
  have hall := List.all_eq_true.1 h.1.2
  obtain ⟨h1, h2, h3, h4⟩ := few_parts h.1.1
  unfold lightB at h4
  simp only [decide_eq_true_eq] at h4
  refine ⟨h1, h2, h3, fun j hj => ?_, fun i hi j hj => ?_, h.2, hv⟩
  · have := hp.free.len j hj
    rcases (show j = 0 ∨ j = 1 ∨ j = 2 by omega) with rfl | rfl | rfl <;> omega
  · obtain ⟨b, off, _, _, hc⟩ := hl (by omega)
    have g := hall i (List.mem_range.2 hi)
    unfold lightB at g
    simp only [decide_eq_true_eq] at g
    have := (hc i hi).2.len j hj
    rcases (show j = 0 ∨ j = 1 ∨ j = 2 by omega) with rfl | rfl | rfl <;> omega
section
variable {s t : Hs} {d d' : Hd_} {n B C : Nat} {F : Nat → Nat → List Int}
theorem Lite9.fine (h : Lite9 s d n F B) (hB : B ≤ 1000) : Fine s d := by
  have f0 := h.lF 0 (by decide)
  have f1 := h.lF 1 (by decide)
  have f2 := h.lF 2 (by decide)
  have := h.w
  have := h.p
  have := h.c
  exact ⟨by omega, by omega, by omega, h.hv, by rw [upTo3]; omega⟩
theorem Lite9.all (h : Lite9 s d n F B) (hB : B ≤ 1000) : (Ls.allOf (ahead d.F F) (1 + n)).length ≤ 2000000 := by
  have f0 := h.lF 0 (by decide)
  have f1 := h.lF 1 (by decide)
  have f2 := h.lF 2 (by decide)
  have key : ∀ m, m ≤ 1 + n → (Ls.allOf (ahead d.F F) m).length ≤ 3000 * m := fun m => by
    induction m with
    | zero => intro _; simp [Ls.allOf]
    | succ m ih =>
      intro hm
      rw [Ls.allOf_succ, List.length_append, upTo3]
      have := ih (by omega)
      cases m with
      | zero => simp only [ahead]; omega
      | succ i => have a0 := h.lG i (by omega) 0 (by decide); have a1 := h.lG i (by omega) 1 (by decide); have a2 := h.lG i (by omega) 2 (by decide); simp only [ahead]; omega
  have := key (1 + n) (Nat.le_refl _)
  have := h.n4
  omega
theorem Lite9.fineT (h : Lite9 s d n F B) (hB : B ≤ 1000) (hs : ∀ j, j < 3 → (s.u j).n = (d.F j).length) (u : Nat → Ls.Sl) (G : Nat → List Int) (hG : ∀ j, j < 3 → (G j).length ≤ 1000) (hu : ∀ j, j < 3 → (u j).n = (G j).length) : FineT s d u G := by
  have f0 := h.lF 0 (by decide)
  have f1 := h.lF 1 (by decide)
  have f2 := h.lF 2 (by decide)
  have g0 := hG 0 (by decide)
  have g1 := hG 1 (by decide)
  have g2 := hG 2 (by decide)
  refine ⟨h.fine hB, fun j hj => by have := hs j hj; have := h.lF j hj; omega, fun j hj => by have := hu j hj; have := hG j hj; omega, ?_⟩
  rw [show Ls.allOf (ahead d.F (fun _ => G)) (1 + 1) = Ls.upTo d.F 3 ++ Ls.upTo G 3 by simp [Ls.allOf, List.range_succ, ahead], List.length_append, upTo3, upTo3]
  omega
theorem Lite9.less (h : Lite9 s d n F B) {m : Nat} {G : Nat → Nat → List Int} (hm : m ≤ n) (hG : ∀ i, i < m → ∃ k, k < n ∧ G i = F k) : Lite9 s d m G B :=
  ⟨h.w, h.p, h.c, h.lF, fun i hi j hj => by obtain ⟨k, hk, e⟩ := hG i hi; rw [e]; exact h.lG k hk j hj, by have := h.n4; omega, h.hv⟩
theorem wipe_or : ∀ (k o : Nat) (xs : List Int) (i : Nat), (Ar.wipe xs o k).getD i 0 = 0 ∨ (Ar.wipe xs o k).getD i 0 = xs.getD i 0
  | 0, _, _, _ => .inr rfl
  | k + 1, o, xs, i => by
    rcases wipe_or k (o + 1) (xs.set o 0) i with h | h
    · exact .inl h
    · rw [Ar.wipe, h, getD_set]
      split
      · exact .inl rfl
      · exact .inr rfl
theorem back_ws (d : Hd_) (p : Nat) : (backD d p).ws = d.ws := by
  unfold backD
  split <;> rfl
theorem back_len (d : Hd_) (p j : Nat) : ((backD d p).F j).length ≤ (d.F j).length := by
  unfold backD
  split
  · show (Ls.upd d.F _ _ j).length ≤ _
    unfold Ls.upd
    split
    · next e => rw [e]; exact List.length_filter_le _ _
    · exact Nat.le_refl _
  · exact Nat.le_refl _
theorem freed_lens (d : Hd_) (n : Nat) (a : Int) : (∀ j, ((freedD d n a).F j).length ≤ (d.F j).length + 1) ∧ ∀ i, (freedD d n a).ws.getD i 0 = 0 ∨ (freedD d n a).ws.getD i 0 = d.ws.getD i 0 := by
  unfold freedD
  split
  · refine ⟨fun j => Nat.le_trans (back_len _ _ j) ?_, fun i => ?_⟩
    · show (Ls.upd d.F _ _ j).length ≤ _
      unfold Ls.upd
      split
      · next e => rw [e, List.length_append]; exact Nat.le_refl _
      · omega
    · rw [back_ws]; exact wipe_or _ _ _ _
  · exact ⟨fun j => by show (d.F j).length ≤ _; omega, fun i => wipe_or _ _ _ _⟩
theorem Lite9.freed (h : Lite9 s d n F B) (a : Int) (hl : Same3 s t) : Lite9 t (freedD d s.p.n a) n F (B + 1) :=
  ⟨by rw [hl.1]; exact h.w, by rw [hl.2.1]; exact h.p, by rw [hl.2.2]; exact h.c, fun j hj => by have := (freed_lens d s.p.n a).1 j; have := h.lF j hj; omega, h.lG, h.n4, fun i => by
    have := h.hv i
    rcases (freed_lens d s.p.n a).2 i with e | e <;> rw [e] <;> omega⟩
theorem flush_ws (d : Hd_) : ∀ k, (flushTo d k).ws = d.ws
  | 0 => rfl
  | k + 1 => (back_ws _ _).trans (flush_ws d k)
theorem Lite9.flush {G : Nat → List Int} (h : Lite9 s d n F B) (hl : Same3 s t) (hG : ∀ j, j < 3 → (G j).length ≤ C) : Lite9 t (flushD d s.p.n G) n F (B + C) :=
  ⟨by rw [hl.1]; exact h.w, by rw [hl.2.1]; exact h.p, by rw [hl.2.2]; exact h.c, fun j hj => by
    have h1 := flush_len (joinD d G) s.p.n j
    have h2 := join_len d G 3 j
    have h3 := h.lF j hj
    have h4 := hG j hj
    exact Nat.le_trans h1 (Nat.le_trans h2 (by omega)), h.lG, h.n4, fun i => by
    have := h.hv i
    rw [show (flushD d s.p.n G).ws = d.ws from flush_ws _ _]
    exact this⟩
end
end Go.Proofs.YtmalopciboikhaaGreatDoor.Rp
end
