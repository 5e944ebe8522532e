/-
  Merged texts: RpTwiceP, RpLawD.
-/
import Derived.Test.YtcbnefjfoeanoaaDoorHpZL
import Derived.Test.YtcbnefjfoeanoaaDoorHpZN
section
namespace Go.Proofs.YtcbnefjfoeanoaaDoor
open Go.RowKit
set_option maxRecDepth 100000

/-- Which pages are free behind an object that is given back. -/
def goneAt (d : Hd_) (n : Nat) (a : Int) (j : Nat) : Prop := if (pgAt d a).1 = 1 then givenB (pushD d n a) (a / 16 - 1).toNat = true ∧ j = (a / 16 - 1).toNat else (a / 16 - 1).toNat ≤ j ∧ (j : Int) < (a / 16 - 1).toNat + Cl.wide d.f (a / 16 - 1).toNat
theorem freed_f (d : Hd_) (n : Nat) (a : Int) (j : Nat) : (goneAt d n a j ∧ (freedD d n a).f j = (0, 0)) ∨ (¬ goneAt d n a j ∧ (freedD d n a).f j = d.f j) := by
  unfold goneAt freedD
  by_cases h1 : (pgAt d a).1 = 1
  · rw [if_pos h1, if_pos h1]
    unfold backD
    have hk : ((pushD d n a).f (a / 16 - 1).toNat).1 = 1 := h1
    by_cases hg : givenB (pushD d n a) (a / 16 - 1).toNat = true
    · rw [if_pos hg]
      by_cases e : j = (a / 16 - 1).toNat
      · exact .inl ⟨⟨hg, e⟩, by rw [e]; exact drop_self hk⟩
      · exact .inr ⟨fun h => e h.2, drop_one hk e⟩
    · rw [if_neg hg]
      exact .inr ⟨fun h => hg h.1, rfl⟩
  · rw [if_neg h1, if_neg h1]
    by_cases h : (a / 16 - 1).toNat ≤ j ∧ (j : Int) < (a / 16 - 1).toNat + Cl.wide d.f (a / 16 - 1).toNat
    · exact .inl ⟨h, if_pos h⟩
    · exact .inr ⟨h, if_neg h⟩
theorem in_out {p q : Nat} (h : ¬ p = q) (xs : List Int) : Ls.inOf (16 + 16 * (q : Int)) (32 + 16 * (q : Int)) (Ls.outOf (16 + 16 * (p : Int)) (32 + 16 * (p : Int)) xs) = Ls.inOf (16 + 16 * (q : Int)) (32 + 16 * (q : Int)) xs := by
  unfold Ls.inOf Ls.outOf
  rw [List.filter_filter]
  refine List.filter_congr fun x _ => ?_
  cases hq : Ls.isIn (16 + 16 * (q : Int)) (32 + 16 * (q : Int)) x
  · rfl
  · have h2 : Ls.isIn (16 + 16 * (p : Int)) (32 + 16 * (p : Int)) x = false := by
      rw [Bool.eq_false_iff, ne_eq, isIn_iff]
      have := isIn_iff.1 hq
      omega
    rw [h2]
    rfl
theorem in_snoc {l h a : Int} (xs : List Int) : Ls.inOf l h (xs ++ [a]) = Ls.inOf l h xs ++ (if l ≤ a ∧ a < h then [a] else []) := by
  unfold Ls.inOf
  rw [List.filter_append]
  congr 1
  by_cases hc : l ≤ a ∧ a < h
  · rw [if_pos hc, List.filter_cons_of_pos (isIn_iff.2 hc)]
    rfl
  · rw [if_neg hc, List.filter_cons_of_neg (fun e => hc (isIn_iff.1 e))]
    rfl
section
variable {n : Nat} {d : Hd_} {a b : Int}
/-- Cells of another page are told of as they were. -/
theorem freed_in (ha : 16 ≤ a) {q : Nat} (hq : ¬ (a / 16 - 1).toNat = q) (j : Nat) : Ls.inOf (16 + 16 * (q : Int)) (32 + 16 * (q : Int)) ((freedD d n a).F j) = Ls.inOf (16 + 16 * (q : Int)) (32 + 16 * (q : Int)) (d.F j) := by
  have hpush : Ls.inOf (16 + 16 * (q : Int)) (32 + 16 * (q : Int)) ((pushD d n a).F j) = Ls.inOf (16 + 16 * (q : Int)) (32 + 16 * (q : Int)) (d.F j) := by
    unfold pushD Ls.upd
    simp only
    split
    · next e => rw [e, in_snoc, if_neg (fun hc => hq ((page_range ha).2 hc)), List.append_nil]
    · rfl
  unfold freedD
  split
  · unfold backD
    split
    · show Ls.inOf _ _ (Ls.upd _ _ _ j) = _
      unfold Ls.upd
      split
      · next e => rw [in_out hq, ← e]; exact hpush
      · exact hpush
    · exact hpush
  · rfl
theorem push_on (hk : d.f (b / 16 - 1).toNat = pgAt d b) : onFree (pushD d n b) (b / 16 - 1).toNat = Ls.inOf (16 + 16 * (((b / 16 - 1).toNat : Nat) : Int)) (32 + 16 * (((b / 16 - 1).toNat : Nat) : Int)) (d.F (pgAt d b).2.toNat ++ [b]) := by
  unfold onFree
  rw [show (pushD d n b).f (b / 16 - 1).toNat = pgAt d b from hk]
  unfold pushD
  simp only
  rw [Ls.upd_same]
/-- On different pages neither hangs on the other one. -/
theorem gone_other (ha : 16 ≤ a) (hne : ¬ (a / 16 - 1).toNat = (b / 16 - 1).toNat) (hpg : pgAt (freedD d n a) b = pgAt d b) (j : Nat) : goneAt (freedD d n a) n b j ↔ goneAt d n b j := by
  unfold goneAt
  rw [hpg]
  have hg : givenB (pushD (freedD d n a) n b) (b / 16 - 1).toNat = givenB (pushD d n b) (b / 16 - 1).toNat := by
    unfold givenB
    rw [push_on rfl, push_on rfl, in_snoc, in_snoc, hpg, freed_in ha hne]
    rw [show (pushD (freedD d n a) n b).f (b / 16 - 1).toNat = pgAt (freedD d n a) b from rfl, show (pushD d n b).f (b / 16 - 1).toNat = pgAt d b from rfl, hpg]
  have hw : Cl.wide (freedD d n a).f (b / 16 - 1).toNat = Cl.wide d.f (b / 16 - 1).toNat := by
    unfold Cl.wide
    rw [show (freedD d n a).f (b / 16 - 1).toNat = pgAt (freedD d n a) b from rfl, hpg]
    rfl
  rw [hg, hw]
/-- Two objects of one page: the page stays behind the first one. -/
theorem gone_same {r : Nat} {G : Nat → List Int} {R : Nat → Nat → List Int} (h : Okay n d G r R) (hba : ¬ Cl.bg d.f n a = 0) (hwa : ¬ wd d a = 0) (hbb : ¬ Cl.bg d.f n b = 0) (hwb : ¬ wd d b = 0) (hab : ¬ a = b) (he : (a / 16 - 1).toNat = (b / 16 - 1).toNat) (h1 : (pgAt d a).1 = 1) :
    givenB (pushD d n a) (a / 16 - 1).toNat = false := by
  have hp := bg_page hba
  have hpn : (a / 16 - 1).toNat < n := by have := hp.2.1; have := hp.2.2.1; omega
  have hl := on_len h.may hpn h1
  have hnd := onFree_nodup h hpn h1
  have hna : a ∉ onFree d (a / 16 - 1).toNat := fun hc => by
    obtain ⟨hk, _⟩ := small_kind h.may hpn h1
    exact hwa (free_facts (h.fF _ hk a (mem_inOf.1 hc).1)).2.2
  have hnb : b ∉ onFree d (a / 16 - 1).toNat := fun hc => by
    obtain ⟨hk, _⟩ := small_kind h.may hpn h1
    exact hwb (free_facts (h.fF _ hk b (mem_inOf.1 hc).1)).2.2
  have hsub : (onFree d (a / 16 - 1).toNat).length + 2 ≤ (Cl.onS d.f n (a / 16 - 1).toNat).length := by
    have hnd2 : (a :: b :: onFree d (a / 16 - 1).toNat).Nodup := by
      refine List.nodup_cons.2 ⟨fun hc => ?_, List.nodup_cons.2 ⟨hnb, hnd⟩⟩
      rcases List.mem_cons.1 hc with e | hc
      · exact hab e
      · exact hna hc
    have hle : ∀ {xs ys : List Int}, xs.Nodup → (∀ x ∈ xs, x ∈ ys) → xs.length ≤ ys.length := fun {xs ys} hx hs => by
      by_cases hc : xs.length ≤ ys.length
      · exact hc
      · exfalso
        induction xs generalizing ys with
        | nil => simp at hc
        | cons x t ih =>
          obtain ⟨hxt, ht⟩ := List.nodup_cons.1 hx
          have hxm : x ∈ ys := hs x List.mem_cons_self
          refine ih (ys := ys.erase x) ht (fun y hy => (List.mem_erase_of_ne (by rintro rfl; exact hxt hy)).2 (hs y (List.mem_cons_of_mem _ hy))) ?_
          rw [List.length_erase_of_mem hxm]
          simp only [List.length_cons] at hc
          have : 0 < ys.length := List.length_pos_of_mem hxm
          omega
    have := hle hnd2 (fun x hx => by
      rcases List.mem_cons.1 hx with e | hx
      · rw [e]; exact mem_on.2 ⟨hba, rfl⟩
      · rcases List.mem_cons.1 hx with e | hx
        · rw [e]; exact mem_on.2 ⟨hbb, he.symm⟩
        · exact onFree_on h hpn h1 hx)
    simpa using this
  have hlen : (onFree (pushD d n a) (a / 16 - 1).toNat).length = (onFree d (a / 16 - 1).toNat).length + 1 := by
    rw [push_on rfl, in_snoc, if_pos ((page_range hp.2.1).1 rfl), List.length_append]
    rfl
  unfold givenB
  rw [hlen, show (pushD d n a).f (a / 16 - 1).toNat = d.f (a / 16 - 1).toNat from rfl, decide_eq_true (show (((onFree d (a / 16 - 1).toNat).length + 1 : Nat) : Int) < Cl.perPage (d.f (a / 16 - 1).toNat).2 by omega)]
  simp
theorem Same4.symm {d d' : Hd_} {y : Int} (h : Same4 n d d' y) : Same4 n d' d y := ⟨h.bg.symm, h.pg.symm, fun z h1 h2 => (h.wd z h1 (by rw [← h.bg]; exact h2)).symm⟩
/-- The order does not matter for pages. -/
theorem twice_f {r : Nat} {G : Nat → List Int} {R : Nat → Nat → List Int} (h : Okay n d G r R) (hl : d.ws.length = 16 * n) (hba : ¬ Cl.bg d.f n a = 0) (hwa : ¬ wd d a = 0) (hbb : ¬ Cl.bg d.f n b = 0) (hwb : ¬ wd d b = 0) (hab : ¬ a = b) (j : Nat) :
    (freedD (freedD d n a) n b).f j = (freedD (freedD d n b) n a).f j := by
  have Ta := freed h hba hwa hl
  have Tb := freed h hbb hwb hl
  have Sb := Ta.keeps b hbb hwb (fun e => hab e.symm)
  have Sa := Tb.keeps a hba hwa hab
  have ha16 := bg_in16 hba
  have hb16 := bg_in16 hbb
  have key : (goneAt (freedD d n a) n b j ∨ goneAt d n a j) ↔ (goneAt (freedD d n b) n a j ∨ goneAt d n b j) := by
    by_cases he : (a / 16 - 1).toNat = (b / 16 - 1).toNat
    · have hpe : pgAt d a = pgAt d b := by unfold pgAt; rw [he]
      have h1 : (pgAt d a).1 = 1 := by
        rcases kind_of (d := d) hba with h1 | h2
        · exact h1
        · have e1 := large_page hba h2
          have e2 := large_page hbb (by rw [← hpe]; exact h2)
          rw [he] at e1
          omega
      have h1b : (pgAt d b).1 = 1 := by rw [← hpe]; exact h1
      have ga := gone_same h hba hwa hbb hwb hab he h1
      have gb := gone_same h hbb hwb hba hwa (fun e => hab e.symm) he.symm h1b
      have na : ¬ goneAt d n a j := by unfold goneAt; rw [if_pos h1]; exact fun hc => by rw [ga] at hc; exact absurd hc.1 (by decide)
      have nb : ¬ goneAt d n b j := by unfold goneAt; rw [if_pos h1b]; exact fun hc => by rw [gb] at hc; exact absurd hc.1 (by decide)
      have ea : freedD d n a = pushD d n a := by unfold freedD backD; rw [if_pos h1, ga]; rfl
      have eb : freedD d n b = pushD d n b := by unfold freedD backD; rw [if_pos h1b, gb]; rfl
      have hx : givenB (pushD (pushD d n a) n b) (b / 16 - 1).toNat = givenB (pushD (pushD d n b) n a) (a / 16 - 1).toNat := by
        have F1 : (pushD d n a).F (pgAt d b).2.toNat = d.F (pgAt d b).2.toNat ++ [a] := by unfold pushD; simp only; rw [hpe, Ls.upd_same]
        have F2 : (pushD d n b).F (pgAt d a).2.toNat = d.F (pgAt d a).2.toNat ++ [b] := by unfold pushD; simp only; rw [hpe, Ls.upd_same]
        have N1 : (onFree (pushD (pushD d n a) n b) (b / 16 - 1).toNat).length = (Ls.inOf (16 + 16 * (((b / 16 - 1).toNat : Nat) : Int)) (32 + 16 * (((b / 16 - 1).toNat : Nat) : Int)) (d.F (pgAt d b).2.toNat)).length + 2 := by
          rw [push_on rfl, show pgAt (pushD d n a) b = pgAt d b from rfl, F1, in_snoc, in_snoc, if_pos ((page_range ha16).1 he), if_pos ((page_range hb16).1 rfl)]
          simp
        have N2 : (onFree (pushD (pushD d n b) n a) (a / 16 - 1).toNat).length = (Ls.inOf (16 + 16 * (((a / 16 - 1).toNat : Nat) : Int)) (32 + 16 * (((a / 16 - 1).toNat : Nat) : Int)) (d.F (pgAt d a).2.toNat)).length + 2 := by
          rw [push_on rfl, show pgAt (pushD d n b) a = pgAt d a from rfl, F2, in_snoc, in_snoc, if_pos ((page_range hb16).1 he.symm), if_pos ((page_range ha16).1 rfl)]
          simp
        unfold givenB
        rw [N1, N2, show (pushD (pushD d n a) n b).f (b / 16 - 1).toNat = pgAt d b from rfl, show (pushD (pushD d n b) n a).f (a / 16 - 1).toNat = pgAt d a from rfl, hpe, he]
      have e1 : goneAt (freedD d n a) n b j ↔ goneAt (freedD d n b) n a j := by
        rw [ea, eb]
        unfold goneAt
        rw [show pgAt (pushD d n a) b = pgAt d b from rfl, show pgAt (pushD d n b) a = pgAt d a from rfl, if_pos h1b, if_pos h1, hx, he]
      constructor
      · rintro (hc | hc)
        · exact .inl (e1.1 hc)
        · exact absurd hc na
      · rintro (hc | hc)
        · exact .inl (e1.2 hc)
        · exact absurd hc nb
    · rw [gone_other ha16 he Sb.pg, gone_other hb16 (fun e => he e.symm) Sa.pg]
      exact Or.comm
  rcases freed_f (freedD d n a) n b j with ⟨c1, e1⟩ | ⟨c1, e1⟩ <;> rcases freed_f d n a j with ⟨c2, e2⟩ | ⟨c2, e2⟩ <;> rcases freed_f (freedD d n b) n a j with ⟨c3, e3⟩ | ⟨c3, e3⟩ <;> rcases freed_f d n b j with ⟨c4, e4⟩ | ⟨c4, e4⟩
  all_goals rw [e1, e3]
  all_goals first
    | rfl
    | (rw [e2, e4])
    | (rw [e2])
    | (rw [e4])
    | skip
  all_goals first
    | (exfalso; simp [c1, c2, c3, c4] at key; done)
    | rfl
end
end Go.Proofs.YtcbnefjfoeanoaaDoor
end
section
namespace Go.Proofs.YtcbnefjfoeanoaaDoor.Rp
open Go.Proofs.YtcbnefjfoeanoaaDoor
open Go.RowKit
set_option maxRecDepth 100000

theorem lens_of {w : World} {B : Nat} {s : Hs} {d : Hd_} {n C : Nat} {F : Nat → Nat → List Int} (hp : Hp w B s d) (h : Lite9 s d n F C) (hC : C ≤ 1000) : ∀ j, j < 3 → (s.u j).n ≤ 1000000 := fun j hj => by
  have h1 := hp.free.len j hj
  have h2 := h.lF j hj
  omega
theorem free_okc {s : Hs} {d : Hd_} (a : Int) (w : World) (h : Okl s d) (hu : ∀ j, j < 3 → (s.u j).n ≤ 1000000) (hp : Hp w w.heap.size s d) (hz : Cl.Sz w) (hE : headE s d a = 0) : Calls Tryd.prog 10 #[(.agg #[.slice s.w.a s.w.n s.w.c, .slice s.p.a s.p.n s.p.c, .slice (s.u 0).a (s.u 0).n (s.u 0).c, .slice (s.u 1).a (s.u 1).n (s.u 1).c, .slice (s.u 2).a (s.u 2).n (s.u 2).c, .slice s.c.a s.c.n s.c.c]), .int .i64 a] w fun e w' => ∃ t : Hs, e = .returned (.tuple #[(.agg #[.slice t.w.a t.w.n t.w.c, .slice t.p.a t.p.n t.p.c, .slice (t.u 0).a (t.u 0).n (t.u 0).c, .slice (t.u 1).a (t.u 1).n (t.u 1).c, .slice (t.u 2).a (t.u 2).n (t.u 2).c, .slice t.c.a t.c.n t.c.c]), .int .i64 0]) ∧ Hp w' w'.heap.size t (freedD d s.p.n a) ∧ (t.w.n = s.w.n ∧ t.p.n = s.p.n ∧ t.c.n = s.c.n) ∧ Below w.heap.size w w' := by
  have := free_any s d a w hp hz h.fine hu
  unfold rkFree at this
  rw [if_pos hE] at this
  exact this
theorem free_noc {s : Hs} {d : Hd_} (a : Int) (w : World) (h : Okl s d) (hu : ∀ j, j < 3 → (s.u j).n ≤ 1000000) (hp : Hp w w.heap.size s d) (hz : Cl.Sz w) (hE : ¬ headE s d a = 0) : Calls Tryd.prog 10 #[(.agg #[.slice s.w.a s.w.n s.w.c, .slice s.p.a s.p.n s.p.c, .slice (s.u 0).a (s.u 0).n (s.u 0).c, .slice (s.u 1).a (s.u 1).n (s.u 1).c, .slice (s.u 2).a (s.u 2).n (s.u 2).c, .slice s.c.a s.c.n s.c.c]), .int .i64 a] w fun e w' => ∃ t : Hs, e = .returned (.tuple #[(.agg #[.slice t.w.a t.w.n t.w.c, .slice t.p.a t.p.n t.p.c, .slice (t.u 0).a (t.u 0).n (t.u 0).c, .slice (t.u 1).a (t.u 1).n (t.u 1).c, .slice (t.u 2).a (t.u 2).n (t.u 2).c, .slice t.c.a t.c.n t.c.c]), .int .i64 (headE s d a)]) ∧ Hp w' w'.heap.size t dNone ∧ True ∧ Below w.heap.size w w' := by
  have := free_any s d a w hp hz h.fine hu
  unfold rkFree at this
  rw [if_neg hE] at this
  exact this.mono fun _ _ ⟨t, h1, h2, _, h4⟩ => ⟨t, h1, h2, trivial, h4⟩
/-- A Free that may tell an error. -/
theorem free_anyc {s : Hs} {d : Hd_} (a : Int) (w : World) (h : Okl s d) (hu : ∀ j, j < 3 → (s.u j).n ≤ 1000000) (hp : Hp w w.heap.size s d) (hz : Cl.Sz w) : Calls Tryd.prog 10 #[(.agg #[.slice s.w.a s.w.n s.w.c, .slice s.p.a s.p.n s.p.c, .slice (s.u 0).a (s.u 0).n (s.u 0).c, .slice (s.u 1).a (s.u 1).n (s.u 1).c, .slice (s.u 2).a (s.u 2).n (s.u 2).c, .slice s.c.a s.c.n s.c.c]), .int .i64 a] w fun e w' => ∃ t : Hs, e = .returned (.tuple #[(.agg #[.slice t.w.a t.w.n t.w.c, .slice t.p.a t.p.n t.p.c, .slice (t.u 0).a (t.u 0).n (t.u 0).c, .slice (t.u 1).a (t.u 1).n (t.u 1).c, .slice (t.u 2).a (t.u 2).n (t.u 2).c, .slice t.c.a t.c.n t.c.c]), .int .i64 (headE s d a)]) ∧ Hp w' w'.heap.size t (rkFree s d a).d ∧ True ∧ Below w.heap.size w w' := by
  have := free_any s d a w hp hz h.fine hu
  refine this.mono fun _ _ ⟨t, h1, h2, _, h4⟩ => ⟨t, ?_, h2, trivial, h4⟩
  rw [h1]
  unfold rkFree
  split
  · next e => rw [e]
  · rfl
theorem Okl.freed {s t : Hs} {d : Hd_} {n B : Nat} {F : Nat → Nat → List Int} {a : Int} (h : Okl s d) (hli : Lite9 s d n F B) (hB : B ≤ 900) (hE : headE s d a = 0) (hl : t.w.n = s.w.n ∧ t.p.n = s.p.n ∧ t.c.n = s.c.n) : Okl t (freedD d s.p.n a) :=
  ⟨(hli.freed (t := t) a hl).fine (by omega), freed_may0 (t := t) h.ws hE hl, by rw [(freed_is h.ws hE).len, h.ws, hl.1]⟩
theorem head_freed {s t : Hs} {d : Hd_} {a b : Int} (h : Okl s d) (hE : headE s d a = 0) (hl : t.w.n = s.w.n ∧ t.p.n = s.p.n ∧ t.c.n = s.c.n) (hb : headE s d b = 0) (hne : ¬ b = a) : headE t (freedD d s.p.n a) b = 0 := by
  obtain ⟨_, b1, b2⟩ := head_is hb
  have S := (freed_is h.ws hE).keeps b b1 b2 hne
  exact head_mk (freed_may0 (t := t) h.ws hE hl) (by rw [hl.2.1, S.bg]; exact b1) (by rw [S.wd b (Int.le_refl _) (bg_self b1)]; exact b2)
theorem gone_freed {s t : Hs} {d : Hd_} {a : Int} (h : Okl s d) (hE : headE s d a = 0) (hl : t.w.n = s.w.n ∧ t.p.n = s.p.n ∧ t.c.n = s.c.n) : headE t (freedD d s.p.n a) a = 3 :=
  head_gone (freed_may0 (t := t) h.ws hE hl) (by rw [hl.2.1]; exact (freed_is h.ws hE).gone)
/-- What has gone stays gone. -/
theorem stays_gone {s t : Hs} {d : Hd_} {a b : Int} (h : Okl s d) (hE : headE s d a = 0) (hl : t.w.n = s.w.n ∧ t.p.n = s.p.n ∧ t.c.n = s.c.n) (hb : headE s d b = 3) (hne : ¬ b = a) : headE t (freedD d s.p.n a) b = 3 := by
  refine head_gone (freed_may0 (t := t) h.ws hE hl) ?_
  rw [hl.2.1]
  by_cases hc : Cl.bg (freedD d s.p.n a).f s.p.n b = 0
  · exact .inl hc
  · obtain ⟨h1, h2⟩ := (freed_is h.ws hE).none b hc hne
    right
    rw [h2]
    unfold headE at hb
    rw [if_neg (by rw [h.may]; decide)] at hb
    split at hb
    · next hh => exact hh.resolve_left h1
    · omega
theorem head_call {s : Hs} {d : Hd_} {a : Int} (w : World) (h : Okl s d) (hp : Hp w w.heap.size s d) (hz : Cl.Sz w) (hE : headE s d a = 3) : Calls Tryd.prog 18 #[(.agg #[.slice s.w.a s.w.n s.w.c, .slice s.p.a s.p.n s.p.c, .slice (s.u 0).a (s.u 0).n (s.u 0).c, .slice (s.u 1).a (s.u 1).n (s.u 1).c, .slice (s.u 2).a (s.u 2).n (s.u 2).c, .slice s.c.a s.c.n s.c.c]), .int .i64 a] w (HeadOut w (.agg #[.bool false, .bool false, .bool false, .int .i64 0, .int .i64 0, .int .i64 0]) 3) := by
  have := phead_any s d a w hp hz h.fine
  have hV : headV s d a = noHead := by
    unfold headV
    rw [if_neg (by rw [hE]; decide)]
  rw [hV, hE] at this
  exact this
end Go.Proofs.YtcbnefjfoeanoaaDoor.Rp
end
