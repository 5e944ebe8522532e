/-
  Merged texts: RpSlot, RpFlP, PgSame, RpTwo.
-/
import Derived.Test.YtcbnefjfoeanoaaDoorHpZO
import Derived.Test.YtcbnefjfoeanoaaDoorHpZL
import Derived.Test.YtcbnefjfoeanoaaDoorHpZE
import Derived.Test.YtcbnefjfoeanoaaDoorHpZA
section
namespace Go.Proofs.YtcbnefjfoeanoaaDoor.Rp
open Go.Proofs.YtcbnefjfoeanoaaDoor
open Go.RowKit
set_option maxRecDepth 100000

structure Pq (w W : World) (A : Option Addr) (n : Nat) (U : Nat → Nat → Ls.Sl) (F : Nat → Nat → List Int) (s : Hs) (d : Hd_) (bk : Nat) (t : Hs) (D : Hd_) : Prop where
  l0 : Ls.LRow w w.heap.size A n U F
  h0 : Hp w w.heap.size s d
  bel : Below w.heap.size w W
  hb : HBox W w.heap.size s
  rm : Rm W bk t
  hp : Hp W W.heap.size t D
  lo : w.heap.size < bk
  ln : t.w.n = s.w.n ∧ t.p.n = s.p.n ∧ t.c.n = s.c.n
section
variable {w w3 W W' : World} {A : Option Addr} {n bk : Nat} {U : Nat → Nat → Ls.Sl} {F : Nat → Nat → List Int} {s t t' : Hs} {d D D' : Hd_}
theorem Pq.next (h : Pq w W A n U F s d bk t D) (hb : Below W.heap.size W W') : Pq w W' A n U F s d bk t D := ⟨h.l0, h.h0, bl_call h.bel hb, h.hb.next hb, h.rm.next hb, h.hp.next hb, h.lo, h.ln⟩
theorem Pq.lr (h : Pq w W A n U F s d bk t D) : Ls.LRow W W.heap.size A n U F := lrow_more (h.l0.below h.bel) h.bel.size
theorem Pq.hs (h : Pq w W A n U F s d bk t D) : Hp W W.heap.size s d := h.h0.next h.bel
theorem pq_start (l0 : Ls.LRow w w.heap.size A n U F) (h0 : Hp w w.heap.size s d) (h : Lx w w3 A n U F [(w.heap.size, s, d)]) (hW : W = w3.alloc (.cells #[.slice s.w.a s.w.n s.w.c, .slice s.p.a s.p.n s.p.c, .slice (s.u 0).a (s.u 0).n (s.u 0).c, .slice (s.u 1).a (s.u 1).n (s.u 1).c, .slice (s.u 2).a (s.u 2).n (s.u 2).c, .slice s.c.a s.c.n s.c.c] 28)) : Pq w W A n U F s d w3.heap.size s d := by
  have hb : Below w3.heap.size w3 W := by rw [hW]; exact (Below.refl _ _).alloc (Nat.le_refl _) _
  have h1 := h.next hb
  have hx := h.at w.heap.size s d (by simp)
  exact ⟨l0, h0, h1.bel, h1.at w.heap.size s d (by simp), by rw [hW]; exact Rm.new w3 s _, h1.hp w.heap.size s d (by simp), hx.lt, rfl, rfl, rfl⟩
theorem pq_put (h : Pq w W A n U F s d bk t D) (hp : Hp W W.heap.size t' D') (ln : t'.w.n = s.w.n ∧ t'.p.n = s.p.n ∧ t'.c.n = s.c.n) : Pq w ((((((W.setCell ⟨bk, 0, none⟩ (.slice t'.w.a t'.w.n t'.w.c)).setCell ⟨bk, 1, none⟩ (.slice t'.p.a t'.p.n t'.p.c)).setCell ⟨bk, 2, none⟩ (.slice (t'.u 0).a (t'.u 0).n (t'.u 0).c)).setCell ⟨bk, 3, none⟩ (.slice (t'.u 1).a (t'.u 1).n (t'.u 1).c)).setCell ⟨bk, 4, none⟩ (.slice (t'.u 2).a (t'.u 2).n (t'.u 2).c)).setCell ⟨bk, 5, none⟩ (.slice t'.c.a t'.c.n t'.c.c)) A n U F s d bk t' D' := by
  have hlo := h.lo
  exact ⟨h.l0, h.h0, below_put6 h.bel (Nat.le_of_lt hlo) _ _ _ _ _ _, hbox_same h.hb (put6_other _ _ _ _ _ _ _ _ (by omega)) (Nat.le_of_eq (put6_size _ _ _ _ _ _ _ _).symm), h.rm.put t', hp_turn h.rm.sl hp (fun _ hi => put6_other _ _ _ _ _ _ _ _ hi) (put6_size _ _ _ _ _ _ _ _).symm, hlo, ln⟩
/-- What the region of a call of one of the caches has. -/
theorem pq_keepF {wr : World} {bb off k : Nat} (h : Pq w wr (some ⟨bb, off, none⟩) n U F s d bk t D) (hk : k < n) (hb : Below wr.heap.size wr W) :
    (Below wr.heap.size wr W ∧ True) ∧ (bk < W.heap.size ∧ W.cell? ⟨bk, 0, none⟩ = some (.slice t.w.a t.w.n t.w.c) ∧ W.cell? ⟨bk, 1, none⟩ = some (.slice t.p.a t.p.n t.p.c) ∧ W.cell? ⟨bk, 2, none⟩ = some (.slice (t.u 0).a (t.u 0).n (t.u 0).c) ∧ W.cell? ⟨bk, 3, none⟩ = some (.slice (t.u 1).a (t.u 1).n (t.u 1).c) ∧ W.cell? ⟨bk, 4, none⟩ = some (.slice (t.u 2).a (t.u 2).n (t.u 2).c) ∧ W.cell? ⟨bk, 5, none⟩ = some (.slice t.c.a t.c.n t.c.c)) ∧ bb < W.heap.size ∧ W.cell? ⟨bb, off + k * 3, none⟩ = some (.slice (U k 0).a (U k 0).n (U k 0).c) ∧ W.cell? ⟨bb, off + k * 3 + 1, none⟩ = some (.slice (U k 1).a (U k 1).n (U k 1).c) ∧ W.cell? ⟨bb, off + k * 3 + 2, none⟩ = some (.slice (U k 2).a (U k 2).n (U k 2).c) := by
  have M := h.next hb
  obtain ⟨b', off', e, hbl, hc⟩ := M.lr (by omega)
  cases e
  have c0 := (hc k hk).1 0 (by decide)
  have c1 := (hc k hk).1 1 (by decide)
  have c2 := (hc k hk).1 2 (by decide)
  rw [Nat.add_zero] at c0
  exact ⟨⟨hb, trivial⟩, six_of M.rm.box.box, hbl, c0, c1, c2⟩
theorem pq_keep2 (h : Pq w W A n U F s d bk t D ∧ True) (hb : Below W.heap.size W W') : (Pq w W' A n U F s d bk t D ∧ True) ∧ (bk < W'.heap.size ∧ W'.cell? ⟨bk, 0, none⟩ = some (.slice t.w.a t.w.n t.w.c) ∧ W'.cell? ⟨bk, 1, none⟩ = some (.slice t.p.a t.p.n t.p.c) ∧ W'.cell? ⟨bk, 2, none⟩ = some (.slice (t.u 0).a (t.u 0).n (t.u 0).c) ∧ W'.cell? ⟨bk, 3, none⟩ = some (.slice (t.u 1).a (t.u 1).n (t.u 1).c) ∧ W'.cell? ⟨bk, 4, none⟩ = some (.slice (t.u 2).a (t.u 2).n (t.u 2).c) ∧ W'.cell? ⟨bk, 5, none⟩ = some (.slice t.c.a t.c.n t.c.c)) ∧ w.heap.size < W'.heap.size ∧ W'.cell? ⟨w.heap.size, 0, none⟩ = some (.slice s.w.a s.w.n s.w.c) ∧ W'.cell? ⟨w.heap.size, 1, none⟩ = some (.slice s.p.a s.p.n s.p.c) ∧ W'.cell? ⟨w.heap.size, 2, none⟩ = some (.slice (s.u 0).a (s.u 0).n (s.u 0).c) ∧ W'.cell? ⟨w.heap.size, 3, none⟩ = some (.slice (s.u 1).a (s.u 1).n (s.u 1).c) ∧ W'.cell? ⟨w.heap.size, 4, none⟩ = some (.slice (s.u 2).a (s.u 2).n (s.u 2).c) ∧ W'.cell? ⟨w.heap.size, 5, none⟩ = some (.slice s.c.a s.c.n s.c.c) :=
  ⟨⟨h.1.next hb, trivial⟩, six_of (h.1.next hb).rm.box.box, six_of (h.1.next hb).hb⟩
end
section
variable {s t : Hs} {d : Hd_} {n B : Nat} {F : Nat → Nat → List Int}
theorem flush_okc (u : Nat → Ls.Sl) (G : Nat → List Int) (w : World) (hp : Hp w w.heap.size s d) (l3 : Ls.L3 w w.heap.size u G) (hz : Cl.Sz w) (hf : FineT s d u G) (hm : mayH s d 1 (fun _ => G) = true) : Calls Tryd.prog 13 #[(.agg #[.slice s.w.a s.w.n s.w.c, .slice s.p.a s.p.n s.p.c, .slice (s.u 0).a (s.u 0).n (s.u 0).c, .slice (s.u 1).a (s.u 1).n (s.u 1).c, .slice (s.u 2).a (s.u 2).n (s.u 2).c, .slice s.c.a s.c.n s.c.c]), (.agg #[.slice (u 0).a (u 0).n (u 0).c, .slice (u 1).a (u 1).n (u 1).c, .slice (u 2).a (u 2).n (u 2).c])] w fun e w' => ∃ t : Hs, e = .returned (.tuple #[(.agg #[.slice t.w.a t.w.n t.w.c, .slice t.p.a t.p.n t.p.c, .slice (t.u 0).a (t.u 0).n (t.u 0).c, .slice (t.u 1).a (t.u 1).n (t.u 1).c, .slice (t.u 2).a (t.u 2).n (t.u 2).c, .slice t.c.a t.c.n t.c.c]), .int .i64 0]) ∧ Hp w' w'.heap.size t (flushD d s.p.n G) ∧ (t.w.n = s.w.n ∧ t.p.n = s.p.n ∧ t.c.n = s.c.n) ∧ Below w.heap.size w w' := by
  have := flush_any s u d G w hp l3 hz hf
  unfold rkFlush at this
  rw [if_pos hm] at this
  exact this
theorem tidy_okc (w : World) (hp : Hp w w.heap.size s d) (hz : Cl.Sz w) (hf : FineT s d Ls.noSl Ls.noLists) (hm : mayH s d 1 (fun _ => Ls.noLists) = true) : Calls Tryd.prog 14 #[(.agg #[.slice s.w.a s.w.n s.w.c, .slice s.p.a s.p.n s.p.c, .slice (s.u 0).a (s.u 0).n (s.u 0).c, .slice (s.u 1).a (s.u 1).n (s.u 1).c, .slice (s.u 2).a (s.u 2).n (s.u 2).c, .slice s.c.a s.c.n s.c.c])] w fun e w' => ∃ t : Hs, e = .returned (.tuple #[(.agg #[.slice t.w.a t.w.n t.w.c, .slice t.p.a t.p.n t.p.c, .slice (t.u 0).a (t.u 0).n (t.u 0).c, .slice (t.u 1).a (t.u 1).n (t.u 1).c, .slice (t.u 2).a (t.u 2).n (t.u 2).c, .slice t.c.a t.c.n t.c.c]), .int .i64 0]) ∧ Hp w' w'.heap.size t (flushD d s.p.n Ls.noLists) ∧ (t.w.n = s.w.n ∧ t.p.n = s.p.n ∧ t.c.n = s.c.n) ∧ Below w.heap.size w w' := by
  have := tidy_any s d w hp hz hf
  unfold rkFlush at this
  rw [if_pos hm] at this
  exact this
theorem Lite9.same (h : Lite9 s d n F B) (hl : Same3 s t) : Lite9 t d n F B := ⟨by rw [hl.1]; exact h.w, by rw [hl.2.1]; exact h.p, by rw [hl.2.2]; exact h.c, h.lF, h.lG, h.n4, h.hv⟩
theorem Lite9.more {C : Nat} (h : Lite9 s d n F B) (hB : B ≤ C) : Lite9 s d n F C := ⟨h.w, h.p, h.c, fun j hj => Nat.le_trans (h.lF j hj) hB, h.lG, h.n4, h.hv⟩
end
end Go.Proofs.YtcbnefjfoeanoaaDoor.Rp
end
section
namespace Go.Proofs.YtcbnefjfoeanoaaDoor
open Go.RowKit
set_option maxRecDepth 100000

def bothG (G H : Nat → List Int) : Nat → List Int := fun j => G j ++ H j
section
variable {n : Nat} {d : Hd_} {G H : Nat → List Int}
theorem join_f (d : Hd_) (G : Nat → List Int) : (joinD d G).f = d.f := rfl
theorem join_F (d : Hd_) (G : Nat → List Int) {j : Nat} (hj : j < 3) : (joinD d G).F j = d.F j ++ G j := if_pos hj
theorem on_app (p : Nat) (xs ys : List Int) : Ls.inOf (16 + 16 * (p : Int)) (32 + 16 * (p : Int)) (xs ++ ys) = Ls.inOf (16 + 16 * (p : Int)) (32 + 16 * (p : Int)) xs ++ Ls.inOf (16 + 16 * (p : Int)) (32 + 16 * (p : Int)) ys := by simp [Ls.inOf]
theorem given_by {e e' : Hd_} {p : Nat} (hf : e'.f p = e.f p) (hl : (onFree e' p).length = (onFree e p).length) : givenB e' p = givenB e p := by unfold givenB; rw [hf, hl]
/-- The second cache has nothing on a page that the first one's flush gives back. -/
theorem second_off (h : Okay n d G 1 (fun _ => H)) {p : Nat} (hp : p < n) (hg : givenB (joinD d G) p = true) {j : Nat} (hj : j < 3) {x : Int} (hx : x ∈ H j) : 16 ≤ x ∧ ¬ (x / 16 - 1).toNat = p := by
  have hO := h.join.1
  have h16 := bg_in16 (free_facts (h.fR 0 (by omega) j hj x hx)).1
  refine ⟨by omega, given_off hO hp hg ?_⟩
  have h1 : x ∈ Ls.allOf (fun _ => H) 1 := mem_allOf.2 ⟨0, j, by omega, hj, hx⟩
  have := List.count_pos_iff.2 h1
  omega
theorem in_none {p : Nat} {xs : List Int} (h : ∀ x ∈ xs, 16 ≤ x ∧ ¬ (x / 16 - 1).toNat = p) : Ls.inOf (16 + 16 * (p : Int)) (32 + 16 * (p : Int)) xs = [] := by
  unfold Ls.inOf
  refine List.filter_eq_nil_iff.2 fun x hx => ?_
  rw [isIn_iff]
  exact fun hc => (h x hx).2 ((page_range (h x hx).1).2 hc)
theorem two_flushes (h : Okay n d G 1 (fun _ => H)) : (∀ p, p < n → (flushD (flushD d n G) n H).f p = (flushD d n (bothG G H)).f p) ∧ ∀ j, j < 3 → (flushD (flushD d n G) n H).F j = (flushD d n (bothG G H)).F j := by
  have T1 := flushed (joinD d G) n
  have T2 := flushed (joinD (flushD d n G) H) n
  have TB := flushed (joinD d (bothG G H)) n
  have e1 : ∀ p, (flushD d n G).f p = if p < n ∧ givenB (joinD d G) p = true then (0, 0) else d.f p := T1.f
  have f1 : ∀ j, (flushD d n G).F j = ((joinD d G).F j).filter fun x => !giv (joinD d G) n j x := T1.F
  -- the lists of a page that stays
  have stay : ∀ p, p < n → (d.f p).1 = 1 → givenB (joinD d G) p = false → givenB (joinD (flushD d n G) H) p = givenB (joinD d (bothG G H)) p := fun p hp h1 hg => by
    have hf : (joinD (flushD d n G) H).f p = d.f p := by
      rw [join_f, e1, if_neg]
      rw [hg]
      simp
    obtain ⟨hk, _⟩ := small_kind h.may hp h1
    refine given_by (by rw [hf, join_f]) ?_
    unfold onFree
    rw [hf, join_f, join_F _ _ hk, join_F _ _ hk, on_app p, f1, show bothG G H (d.f p).2.toNat = G (d.f p).2.toNat ++ H (d.f p).2.toNat from rfl, ← List.append_assoc, on_app p]
    congr 2
    rw [join_F _ _ hk]
    unfold Ls.inOf
    rw [List.filter_filter]
    refine List.filter_congr fun x _ => ?_
    cases hi : Ls.isIn (16 + 16 * (p : Int)) (32 + 16 * (p : Int)) x
    · rfl
    · have hr := isIn_iff.1 hi
      have e : (x / 16 - 1).toNat = p := (page_range (by omega)).2 hr
      unfold giv
      rw [e, hg]
      simp
  have gone : ∀ p, p < n → givenB (joinD d G) p = true → givenB (joinD d (bothG G H)) p = true := fun p hp hg => by
    have h1 : (d.f p).1 = 1 := (given_parts hg).1
    obtain ⟨hk, _⟩ := small_kind h.may hp h1
    have : givenB (joinD d (bothG G H)) p = givenB (joinD d G) p := by
      refine given_by rfl ?_
      unfold onFree
      rw [join_f, join_f, join_F _ _ hk, join_F _ _ hk, show bothG G H (d.f p).2.toNat = G (d.f p).2.toNat ++ H (d.f p).2.toNat from rfl, ← List.append_assoc, on_app p (d.F _ ++ G _), in_none fun x hx => second_off h hp hg hk hx, List.append_nil]
    rw [this]
    exact hg
  have small : ∀ p, givenB (joinD d (bothG G H)) p = true → (d.f p).1 = 1 := fun p hg => (given_parts hg).1
  have no1 : ∀ p, p < n → givenB (joinD d G) p = true → givenB (joinD (flushD d n G) H) p = false := fun p hp hg => by
    unfold givenB
    rw [join_f, e1, if_pos ⟨hp, hg⟩]
    rfl
  have no2 : ∀ p, p < n → ¬ (d.f p).1 = 1 → givenB (joinD d G) p = false ∧ givenB (joinD (flushD d n G) H) p = false ∧ givenB (joinD d (bothG G H)) p = false := fun p hp h1 => by
    have g1 : givenB (joinD d G) p = false := by unfold givenB; rw [join_f, decide_eq_false h1]; rfl
    have g3 : givenB (joinD d (bothG G H)) p = false := by unfold givenB; rw [join_f, decide_eq_false h1]; rfl
    refine ⟨g1, ?_, g3⟩
    unfold givenB
    rw [join_f, e1, if_neg (by rw [g1]; simp), decide_eq_false h1]
    rfl
  refine ⟨fun p hp => ?_, fun j hj => ?_⟩
  · show (flushTo _ n).f p = (flushTo _ n).f p
    rw [T2.f, TB.f, join_f, join_f, e1]
    by_cases h1 : (d.f p).1 = 1
    · cases hg : givenB (joinD d G) p
      · rw [stay p hp h1 hg, if_neg (show ¬ (p < n ∧ false = true) by simp)]
      · rw [no1 p hp hg, gone p hp hg]
        simp [hp]
    · obtain ⟨g1, g2, g3⟩ := no2 p hp h1
      rw [g1, g2, g3]
      simp
  · show (flushTo _ n).F j = (flushTo _ n).F j
    rw [T2.F, TB.F, join_F _ _ hj, join_F _ _ hj, f1, join_F _ _ hj, show bothG G H j = G j ++ H j from rfl, ← List.append_assoc, List.filter_append, List.filter_append (d.F j ++ G j) (H j), List.filter_filter]
    have kf : ∀ p, p < n → givenB (joinD d G) p = false → (joinD (flushD d n G) H).f p = d.f p := fun p hp hg => by
      rw [join_f, e1, if_neg]
      rw [hg]
      simp
    congr 1
    · refine List.filter_congr fun x _ => ?_
      by_cases hx : (x / 16 - 1).toNat < n ∧ 16 ≤ x
      · unfold giv
        rw [decide_eq_true hx]
        generalize hpq : (x / 16 - 1).toNat = p at hx
        by_cases h1 : (d.f p).1 = 1
        · cases hg : givenB (joinD d G) p
          · rw [stay p hx.1 h1 hg, kf p hx.1 hg]
            simp only [Bool.true_and, Bool.false_and, Bool.not_false, Bool.and_true]
            rfl
          · rw [no1 p hx.1 hg, gone p hx.1 hg]
            simp only [Bool.true_and, Bool.false_and, Bool.not_false]
            rfl
        · obtain ⟨g1, g2, g3⟩ := no2 p hx.1 h1
          rw [g1, g2, g3]
          simp
      · unfold giv
        rw [decide_eq_false hx]
        simp
    · refine List.filter_congr fun x hxm => ?_
      by_cases hx : (x / 16 - 1).toNat < n ∧ 16 ≤ x
      · have hoff := fun hg => (second_off h (p := (x / 16 - 1).toNat) hx.1 hg hj hxm).2 rfl
        unfold giv
        rw [decide_eq_true hx]
        generalize hpq : (x / 16 - 1).toNat = p at hx hoff
        have hg : givenB (joinD d G) p = false := Bool.eq_false_iff.2 hoff
        by_cases h1 : (d.f p).1 = 1
        · rw [stay p hx.1 h1 hg, kf p hx.1 hg, join_f]
        · obtain ⟨g1, g2, g3⟩ := no2 p hx.1 h1
          rw [g2, g3]
          simp
      · unfold giv
        rw [decide_eq_false hx]
        simp
theorem told_both {x : Int} : told d (bothG G H) 0 (fun _ => bothG G H) x = told d G 1 (fun _ => H) x := by
  unfold told
  rw [count_upTo, count_upTo, count_upTo, show Ls.allOf (fun _ => H) 1 = Ls.upTo H 3 by simp [Ls.allOf, List.range_succ], count_upTo, show Ls.allOf (fun _ => bothG G H) 0 = [] from rfl]
  simp only [bothG, List.count_append, List.count_nil]
  omega
theorem both_okay (h : Okay n d G 1 (fun _ => H)) : Okay n d (bothG G H) 0 (fun _ => bothG G H) :=
  ⟨h.may, h.cell, h.fF, fun j hj x hx => (List.mem_append.1 hx).elim (fun hx => h.fG j hj x hx) (fun hx => h.fR 0 (by omega) j hj x hx), fun k hk => absurd hk (Nat.not_lt_zero k), fun x => by rw [told_both]; exact h.one x⟩
end
end Go.Proofs.YtcbnefjfoeanoaaDoor
end
section
namespace Go.Proofs.YtcbnefjfoeanoaaDoor.Cl
open Go.Proofs.YtcbnefjfoeanoaaDoor
set_option maxRecDepth 100000
open Go.RowKit

set_option maxHeartbeats 1000000 in
theorem same_yes (B B' : Nat) (A A' : Option Addr) (n c c' : Nat) (f g : Nat → Int × Int) (w : World) (hn : n ≤ 1000) (he : ∀ i, i < n → g i = f i) (hr : PRow w B A n f) (hr' : PRow w B' A' n g) (hB : B ≤ w.heap.size) (hB' : B' ≤ w.heap.size) :
    Calls Tryd.prog 20 #[.slice A n c, .slice A' n c'] w fun e w' => e = .returned (.bool true) ∧ Below w.heap.size w w' := by
  have HR := Lib.hid hr
  have HR' := Lib.hid (hr'.congr (fun i hi => (he i hi).symm))
  clear hr hr' he
  go_enter Tryd.func20, Tryd.ntmps20
  go_wp2
  go_loopw [5] (fun i wr => ∃ k : Nat, k ≤ n ∧ i = .int .i64 k ∧ Below w.heap.size w wr) (fun i _ => n - (intOf i).toNat)
  case atStart => exact ⟨0, Nat.zero_le _, rfl, Below.refl _ _⟩
  case round =>
    obtain ⟨k, hk, rfl, hb⟩ := hrel
    by_cases hlt : k < n
    · obtain ⟨b, off, rfl, hbB, hc⟩ := (HR.out.over hb hB) (by omega)
      obtain ⟨p0, p1⟩ := hc k hlt
      obtain ⟨b', off', rfl, hbB', hc'⟩ := (HR'.out.over hb hB') (by omega)
      obtain ⟨q0, q1⟩ := hc' k hlt
      have HB := Lib.hid hb
      have hz := hb.size
      have HQ := pneq_no (a := (f k).1) (b := (f k).2) ⟨rfl, rfl⟩
      clear hb hc hc'
      go_wp2
      go_quiet (fail)
      go_wp2
      go_roundw
      case rel => exact ⟨k + 1, by omega, by go_num, below_drewN HB.out _⟩
      case measure => simp [intOf]; omega
    · go_wp2
      go_ret
      exact ⟨rfl, hb⟩
end Go.Proofs.YtcbnefjfoeanoaaDoor.Cl
end
section
namespace Go.Proofs.YtcbnefjfoeanoaaDoor.Rp
open Go.Proofs.YtcbnefjfoeanoaaDoor
open Go.RowKit
set_option maxRecDepth 100000

theorem two9_lrow {w : World} {B : Nat} {u v : Nat → Ls.Sl} {f g : Nat → List Int} (h : Ls.L3 w B u f) (h' : Ls.L3 w B v g) (hB : B ≤ w.heap.size) (t : TypeId) :
    Ls.LRow (w.alloc (.cells #[.slice (u 0).a (u 0).n (u 0).c, .slice (u 1).a (u 1).n (u 1).c, .slice (u 2).a (u 2).n (u 2).c, .slice (v 0).a (v 0).n (v 0).c, .slice (v 1).a (v 1).n (v 1).c, .slice (v 2).a (v 2).n (v 2).c] t)) (w.heap.size + 1) (some ⟨w.heap.size, 0, none⟩) 2 (ahead u (fun _ => v)) (ahead f (fun _ => g)) := by
  refine fun _ => ⟨w.heap.size, 0, rfl, by omega, fun k hk => ?_⟩
  match k, hk with
  | 0, _ =>
    exact ⟨fun j hj => (by
      match j, hj with
      | 0, _ => simp [go_sem, ahead]
      | 1, _ => simp [go_sem, ahead]
      | 2, _ => simp [go_sem, ahead]), (h.below ((Below.refl _ _).alloc hB _)).more (by omega)⟩
  | 1, _ =>
    exact ⟨fun j hj => (by
      match j, hj with
      | 0, _ => simp [go_sem, ahead]
      | 1, _ => simp [go_sem, ahead]
      | 2, _ => simp [go_sem, ahead]), (h'.below ((Below.refl _ _).alloc hB _)).more (by omega)⟩
structure Mx (w W : World) (u v : Nat → Ls.Sl) (G H : Nat → List Int) (hs : List (Nat × Hs × Hd_)) : Prop where
  bel : Below w.heap.size w W
  b1 : Ls.Box3 W (w.heap.size + 1) u
  b2 : Ls.Box3 W (w.heap.size + 2) v
  lu : Ls.L3 W W.heap.size u G
  lv : Ls.L3 W W.heap.size v H
  h : ∀ x ∈ hs, HBox W x.1 x.2.1 ∧ Hp W W.heap.size x.2.1 x.2.2
section
variable {w w3 W W' : World} {s t : Hs} {d : Hd_} {b k : Nat} {u v V : Nat → Ls.Sl} {G H : Nat → List Int} {hs : List (Nat × Hs × Hd_)}
theorem Mx.next (h : Mx w W u v G H hs) (hb : Below W.heap.size W W') : Mx w W' u v G H hs := ⟨bl_call h.bel hb, h.b1.next hb, h.b2.next hb, h.lu.next hb, h.lv.next hb, fun x hx => ⟨(h.h x hx).1.next hb, (h.h x hx).2.next hb⟩⟩
theorem Mx.at (h : Mx w W u v G H hs) (b : Nat) (s : Hs) (d : Hd_) (hm : (b, s, d) ∈ hs) : HBox W b s := (h.h _ hm).1
theorem Mx.hp (h : Mx w W u v G H hs) (b : Nat) (s : Hs) (d : Hd_) (hm : (b, s, d) ∈ hs) : Hp W W.heap.size s d := (h.h _ hm).2
theorem Mx.add (h : Mx w w3 u v G H hs) (k : Nw w3 W b t d) : Mx w W u v G H ((b, t, d) :: hs) := by
  have h1 := h.next k.bel
  refine ⟨h1.bel, h1.b1, h1.b2, h1.lu, h1.lv, fun x hx => ?_⟩
  rcases List.mem_cons.1 hx with rfl | hx
  · exact ⟨k.box, k.hp⟩
  · exact h1.h x hx
theorem mx_start (hp : Hp w w.heap.size s d) (lu : Ls.L3 w w.heap.size u G) (lv : Ls.L3 w w.heap.size v H) (h : W = ((w.alloc (.cells #[.slice s.w.a s.w.n s.w.c, .slice s.p.a s.p.n s.p.c, .slice (s.u 0).a (s.u 0).n (s.u 0).c, .slice (s.u 1).a (s.u 1).n (s.u 1).c, .slice (s.u 2).a (s.u 2).n (s.u 2).c, .slice s.c.a s.c.n s.c.c] 28)).alloc (.cells #[.slice (u 0).a (u 0).n (u 0).c, .slice (u 1).a (u 1).n (u 1).c, .slice (u 2).a (u 2).n (u 2).c] 25)).alloc (.cells #[.slice (v 0).a (v 0).n (v 0).c, .slice (v 1).a (v 1).n (v 1).c, .slice (v 2).a (v 2).n (v 2).c] 25)) : Mx w W u v G H [(w.heap.size, s, d)] := by
  obtain ⟨W1, h1⟩ : ∃ W1, W1 = w.alloc (.cells #[.slice s.w.a s.w.n s.w.c, .slice s.p.a s.p.n s.p.c, .slice (s.u 0).a (s.u 0).n (s.u 0).c, .slice (s.u 1).a (s.u 1).n (s.u 1).c, .slice (s.u 2).a (s.u 2).n (s.u 2).c, .slice s.c.a s.c.n s.c.c] 28) := ⟨_, rfl⟩
  obtain ⟨W2, h2⟩ : ∃ W2, W2 = W1.alloc (.cells #[.slice (u 0).a (u 0).n (u 0).c, .slice (u 1).a (u 1).n (u 1).c, .slice (u 2).a (u 2).n (u 2).c] 25) := ⟨_, rfl⟩
  rw [← h1, ← h2] at h
  have z1 : W1.heap.size = w.heap.size + 1 := by rw [h1]; simp
  have z2 : W2.heap.size = w.heap.size + 2 := by rw [h2, World.size_alloc, z1]
  have a1 : Below w.heap.size w W1 := by rw [h1]; exact (Below.refl _ _).alloc (Nat.le_refl _) _
  have a2 : Below W1.heap.size W1 W2 := by rw [h2]; exact (Below.refl _ _).alloc (Nat.le_refl _) _
  have a3 : Below W2.heap.size W2 W := by rw [h]; exact (Below.refl _ _).alloc (Nat.le_refl _) _
  have x1 : HBox W1 w.heap.size s := by rw [h1]; exact HBox.new w s _
  have x2 : Ls.Box3 W2 (w.heap.size + 1) u := by rw [h2, ← z1]; exact Ls.Box3.new W1 u _
  have x3 : Ls.Box3 W (w.heap.size + 2) v := by rw [h, ← z2]; exact Ls.Box3.new W2 v _
  refine ⟨bl_call (bl_call a1 a2) a3, x2.next a3, x3, ((lu.next a1).next a2).next a3, ((lv.next a1).next a2).next a3, fun x hx => ?_⟩
  obtain rfl := List.mem_singleton.1 hx
  exact ⟨(x1.next a2).next a3, ((hp.next a1).next a2).next a3⟩
/-- The third cache, of both, as far as it is filled. -/
structure Bo (w W : World) (u v : Nat → Ls.Sl) (G H : Nat → List Int) (hs : List (Nat × Hs × Hd_)) (bb : Nat) (V : Nat → Ls.Sl) (k : Nat) : Prop where
  m : Mx w W u v G H hs
  bx : Ls.Box3 W bb V
  sl : Slices W bb
  hi : w.heap.size + 2 < bb
  lt : ∀ x ∈ hs, x.1 < bb
  rows : ∀ j, j < k → Row W W.heap.size (V j).a (V j).n (bothG G H j) ∧ (V j).n ≤ (V j).c ∧ (V j).c ≤ maxLen
theorem bo_start (h : Mx w w3 u v G H hs) (hW : W = w3.alloc (.cells #[.slice none 0 0, .slice none 0 0, .slice none 0 0] 25)) : Bo w W u v G H hs w3.heap.size Ls.noSl 0 := by
  have hb : Below w3.heap.size w3 W := by rw [hW]; exact (Below.refl _ _).alloc (Nat.le_refl _) _
  refine ⟨h.next hb, by rw [hW]; exact Ls.Box3.new w3 Ls.noSl _, ?_, h.b2.lt, fun x hx => (h.h x hx).1.lt, fun j hj => absurd hj (Nat.not_lt_zero j)⟩
  rw [hW]
  intro j x hx
  rcases j with _ | _ | _ | j
  · simp [go_sem] at hx; exact ⟨_, _, _, hx.symm⟩
  · simp [go_sem] at hx; exact ⟨_, _, _, hx.symm⟩
  · simp [go_sem] at hx; exact ⟨_, _, _, hx.symm⟩
  · simp [go_sem] at hx
theorem Bo.next {bb : Nat} (h : Bo w W u v G H hs bb V k) (hb : Below W.heap.size W W') : Bo w W' u v G H hs bb V k := ⟨h.m.next hb, h.bx.next hb, h.sl.same (hb.block _ h.bx.lt), h.hi, h.lt, fun j hj => ⟨row_next (h.rows j hj).1 hb, (h.rows j hj).2⟩⟩
theorem Bo.step {bb : Nat} (h : Bo w W u v G H hs bb V k) (hk : k < 3) (sl : Ls.Sl) (hr : Row W W.heap.size sl.a sl.n (bothG G H k)) (hc : sl.n ≤ sl.c ∧ sl.c ≤ maxLen) : Bo w (W.setCell ⟨bb, k, none⟩ (.slice sl.a sl.n sl.c)) u v G H hs bb (Ls.upd V k sl) (k + 1) := by
  have hz : W.heap.size = (W.setCell ⟨bb, k, none⟩ (.slice sl.a sl.n sl.c)).heap.size := by simp [World.setCell]
  have ho : ∀ i, ¬ i = bb → (W.setCell ⟨bb, k, none⟩ (.slice sl.a sl.n sl.c)).heap[i]? = W.heap[i]? := fun i hi => Below.heap_setCell _ _ _ _ hi
  have hhi := h.hi
  refine ⟨⟨bl_set h.m.bel (by omega) _, h.m.b1.same (ho _ (by omega)) (Nat.le_of_eq hz), h.m.b2.same (ho _ (by omega)) (Nat.le_of_eq hz), l3_turn h.sl h.m.lu ho hz, l3_turn h.sl h.m.lv ho hz, fun x hx => ⟨hbox_same (h.m.h x hx).1 (ho _ (by have := h.lt x hx; omega)) (Nat.le_of_eq hz), hp_turn h.sl (h.m.h x hx).2 ho hz⟩⟩, h.bx.set hk sl, h.sl.set, hhi, h.lt, fun j hj => ?_⟩
  by_cases e : j = k
  · subst e
    rw [Ls.upd_same]
    exact ⟨row_set h.sl hr, hc⟩
  · rw [Ls.upd_other _ _ e]
    exact ⟨row_set h.sl (h.rows j (by omega)).1, (h.rows j (by omega)).2⟩
theorem Bo.l3 {bb : Nat} (h : Bo w W u v G H hs bb V 3) : Ls.L3 W W.heap.size V (bothG G H) := fun j hj => ⟨(h.rows j hj).1, (h.rows j hj).2⟩
theorem mx_keep {bb : Nat} (h : Bo w W u v G H hs bb V k ∧ True) (hk : k < 3) (hb : Below W.heap.size W W') : (Bo w W' u v G H hs bb V k ∧ True) ∧ (W'.cell? ⟨w.heap.size + 1, k, none⟩ = some (.slice (u k).a (u k).n (u k).c) ∧ w.heap.size + 1 < W'.heap.size) ∧ (W'.cell? ⟨w.heap.size + 2, k, none⟩ = some (.slice (v k).a (v k).n (v k).c) ∧ w.heap.size + 2 < W'.heap.size) ∧ W'.cell? ⟨bb, k, none⟩ = some (.slice (V k).a (V k).n (V k).c) ∧ W'.frozen? ⟨bb, k, none⟩ = false ∧ bb < W'.heap.size := by
  have M := h.1.next hb
  exact ⟨⟨M, trivial⟩, ⟨M.m.b1.cell k hk, M.m.b1.lt⟩, ⟨M.m.b2.cell k hk, M.m.b2.lt⟩, M.bx.cell k hk, M.bx.free k, M.bx.lt⟩
end
/-- What two appends leave: both rows, one behind the other, in new memory. -/
structure App1 (W W1 : World) (s : Ls.Sl) (xs : List Int) : Prop where
  own : W1.ownsRow W.heap.size 3 1 (.slice s.a s.n s.c) s.n (xs.map (Value.int .i64))
  bel : Below W.heap.size W W1
theorem app1 {W W1 : World} {s : Ls.Sl} {xs : List Int} (hc : Ls.Catted W W.heap.size (.slice none 0 0) s xs W1) : App1 W W1 s xs := ⟨hc.own, (Below.refl _ _).grown hc.grown (Nat.le_refl _) (by intro j hj; cases hj)⟩
theorem app2 {W W1 W2 : World} {s t : Ls.Sl} {xs ys : List Int} (h : App1 W W1 s xs) (hc : Ls.Catted W1 W.heap.size (.slice s.a s.n s.c) t ys W2) : App1 W W2 t ys :=
  ⟨hc.own, h.bel.grown hc.grown h.bel.size fun j hj => (h.own.lt j hj).1⟩
theorem App1.row {W W1 : World} {s : Ls.Sl} {xs : List Int} (h : App1 W W1 s xs) : Row W1 W1.heap.size s.a s.n xs ∧ s.n ≤ s.c ∧ s.c ≤ maxLen := by
  obtain ⟨a, c, e, h1, h2, h3⟩ := Ls.owns_row h.own
  simp only [Value.slice.injEq, true_and] at e
  obtain ⟨rfl, rfl⟩ := e
  exact ⟨h1, h2, h3⟩
end Go.Proofs.YtcbnefjfoeanoaaDoor.Rp
end
