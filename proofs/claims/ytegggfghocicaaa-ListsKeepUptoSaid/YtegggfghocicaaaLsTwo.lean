/-
  Two calls of All in one region that draws its order: what each finds, whichever slice was laid first; append to what All returned.
-/
import Derived.Test.YtegggfghocicaaaLsPerm
namespace Go.Proofs.Ytegggfghocicaaa
open Go.RowKit

def two {α : Type} (u v : α) : Nat → α := fun | 0 => u | _ => v
section
variable {w W w' : World} {bs : List (Nat × (Nat → Sl))} {ls : List ((Nat → Sl) × (Nat → List Int))} {rs : List (Sl × List Int)} {u v p q : Nat → Sl} {f g P Q : Nat → List Int}
theorem Has.lrow2 (h : Has w W bs ls rs) (hu : (u, f) ∈ ls) (hv : (v, g) ∈ ls) : LRow (W.alloc (.cells #[.slice (u 0).a (u 0).n (u 0).c, .slice (u 1).a (u 1).n (u 1).c, .slice (u 2).a (u 2).n (u 2).c, .slice (v 0).a (v 0).n (v 0).c, .slice (v 1).a (v 1).n (v 1).c, .slice (v 2).a (v 2).n (v 2).c] 24)) (W.heap.size + 1) (some ⟨W.heap.size, 0, none⟩) 2 (two u v) (two f g) := two_lrow (h.of hu) (h.of hv) (Nat.le_refl _) 24
theorem Has.lrow1 (h : Has w W bs ls rs) (hu : (u, f) ∈ ls) : LRow (W.alloc (.cells #[.slice (u 0).a (u 0).n (u 0).c, .slice (u 1).a (u 1).n (u 1).c, .slice (u 2).a (u 2).n (u 2).c] 24)) (W.heap.size + 1) (some ⟨W.heap.size, 0, none⟩) 1 (fun _ => u) (fun _ => f) := one_lrow (h.of hu) (Nat.le_refl _) 24
theorem LRow.more {B C n : Nat} {A : Option Addr} {U : Nat → Nat → Sl} {F : Nat → Nat → List Int} (h : LRow W B A n U F) (hB : B ≤ C) : LRow W C A n U F := fun hn => by
  obtain ⟨b, off, e, hlt, hc⟩ := h hn
  exact ⟨b, off, e, Nat.lt_of_lt_of_le hlt hB, fun i hi => ⟨(hc i hi).1, (hc i hi).2.more hB⟩⟩
theorem LRow.next {n : Nat} {A : Option Addr} {U : Nat → Nat → Sl} {F : Nat → Nat → List Int} (h : LRow W W.heap.size A n U F) (hb : Below W.heap.size W w') : LRow w' w'.heap.size A n U F := (h.below hb).more hb.size
theorem has_drawn (h : Has w W bs ls rs) : Has w W.drew bs ls rs := h.drewN 1

theorem drew_out (W : World) (o : Obj) : W.drew.alloc o = (W.alloc o).drew := rfl
/-- All of two values of lists that lie in a slice. -/
theorem all2_at (h : Has w W bs ls rs) {b : Nat} (hr : LRow W W.heap.size (some ⟨b, 0, none⟩) 2 (two u v) (two f g)) {N : Nat} (hN : cnt3 f + cnt3 g = N) (hn : N ≤ 2000000) :
    Calls Try.prog 21 #[.slice (some ⟨b, 0, none⟩) 2 2] W fun e w' => ∃ A c, e = .returned (.slice A N c) ∧ Has w w' bs ls ((⟨A, N, c⟩, upTo f 3 ++ upTo g 3) :: rs) ∧ Below W.heap.size W w' := by
  have hl : (allOf (two f g) 2).length = N := (cnt_two f g).trans hN
  refine (all_any _ _ 2 2 _ _ _ hr (Nat.le_refl _) (by decide) (by omega)).mono ?_
  rintro e w' ⟨s, rfl, ho, hb⟩
  have hs : s.n = N := by rw [← hl]; simpa using ho.1.symm
  obtain ⟨a1, c1, e1, r1, _, _⟩ := owns_row ho
  simp only [Value.slice.injEq, true_and] at e1
  obtain ⟨rfl, rfl⟩ := e1
  rw [show allOf (two f g) 2 = upTo f 3 ++ upTo g 3 from all_two f g] at r1
  rw [hs] at r1 ⊢
  exact ⟨s.a, s.c, rfl, (h.next hb).rowOf (s := ⟨s.a, N, s.c⟩) r1, hb⟩
/-- .. the first of two calls: the one slice alone was laid. -/
theorem all2_a (h : Has w W bs ls rs) (hu : (u, f) ∈ ls) (hv : (v, g) ∈ ls) {N : Nat} (hN : cnt3 f + cnt3 g = N) (hn : N ≤ 2000000) :
    Calls Try.prog 21 #[.slice (some ⟨W.heap.size, 0, none⟩) 2 2] (W.drew.alloc (.cells #[.slice (u 0).a (u 0).n (u 0).c, .slice (u 1).a (u 1).n (u 1).c, .slice (u 2).a (u 2).n (u 2).c, .slice (v 0).a (v 0).n (v 0).c, .slice (v 1).a (v 1).n (v 1).c, .slice (v 2).a (v 2).n (v 2).c] 24)) fun e w' => ∃ A c, e = .returned (.slice A N c) ∧ Has w w' bs ls ((⟨A, N, c⟩, upTo f 3 ++ upTo g 3) :: rs) ∧ True := by
  have hd := has_drawn h
  have hr := (hd.lrow2 hu hv).more (C := (W.drew.alloc (.cells #[.slice (u 0).a (u 0).n (u 0).c, .slice (u 1).a (u 1).n (u 1).c, .slice (u 2).a (u 2).n (u 2).c, .slice (v 0).a (v 0).n (v 0).c, .slice (v 1).a (v 1).n (v 1).c, .slice (v 2).a (v 2).n (v 2).c] 24)).heap.size) (by simp)
  refine (all2_at (hd.alloc _) hr hN hn).mono ?_
  rintro e w' ⟨A, c, he, h', _⟩
  exact ⟨A, c, he, h', trivial⟩
/-- .. both were laid, its own first. -/
theorem all2_b (h : Has w W bs ls rs) (hu : (u, f) ∈ ls) (hv : (v, g) ∈ ls) (hp : (p, P) ∈ ls) (hq : (q, Q) ∈ ls) {N : Nat} (hN : cnt3 f + cnt3 g = N) (hn : N ≤ 2000000) :
    Calls Try.prog 21 #[.slice (some ⟨W.heap.size, 0, none⟩) 2 2] ((W.drew.alloc (.cells #[.slice (u 0).a (u 0).n (u 0).c, .slice (u 1).a (u 1).n (u 1).c, .slice (u 2).a (u 2).n (u 2).c, .slice (v 0).a (v 0).n (v 0).c, .slice (v 1).a (v 1).n (v 1).c, .slice (v 2).a (v 2).n (v 2).c] 24)).alloc (.cells #[.slice (p 0).a (p 0).n (p 0).c, .slice (p 1).a (p 1).n (p 1).c, .slice (p 2).a (p 2).n (p 2).c, .slice (q 0).a (q 0).n (q 0).c, .slice (q 1).a (q 1).n (q 1).c, .slice (q 2).a (q 2).n (q 2).c] 24)) fun e w' => ∃ A c, e = .returned (.slice A N c) ∧ Has w w' bs ls ((⟨A, N, c⟩, upTo f 3 ++ upTo g 3) :: rs) ∧ LRow w' w'.heap.size (some ⟨W.heap.size + 1, 0, none⟩) 2 (two p q) (two P Q) := by
  have hd := has_drawn h
  have hd1 := hd.alloc (.cells #[.slice (u 0).a (u 0).n (u 0).c, .slice (u 1).a (u 1).n (u 1).c, .slice (u 2).a (u 2).n (u 2).c, .slice (v 0).a (v 0).n (v 0).c, .slice (v 1).a (v 1).n (v 1).c, .slice (v 2).a (v 2).n (v 2).c] 24)
  have hr := ((hd.lrow2 hu hv).below ((Below.refl _ _).alloc (by rw [World.size_alloc]; exact Nat.le_refl _) (.cells #[.slice (p 0).a (p 0).n (p 0).c, .slice (p 1).a (p 1).n (p 1).c, .slice (p 2).a (p 2).n (p 2).c, .slice (q 0).a (q 0).n (q 0).c, .slice (q 1).a (q 1).n (q 1).c, .slice (q 2).a (q 2).n (q 2).c] 24))).more (C := ((W.drew.alloc (.cells #[.slice (u 0).a (u 0).n (u 0).c, .slice (u 1).a (u 1).n (u 1).c, .slice (u 2).a (u 2).n (u 2).c, .slice (v 0).a (v 0).n (v 0).c, .slice (v 1).a (v 1).n (v 1).c, .slice (v 2).a (v 2).n (v 2).c] 24)).alloc (.cells #[.slice (p 0).a (p 0).n (p 0).c, .slice (p 1).a (p 1).n (p 1).c, .slice (p 2).a (p 2).n (p 2).c, .slice (q 0).a (q 0).n (q 0).c, .slice (q 1).a (q 1).n (q 1).c, .slice (q 2).a (q 2).n (q 2).c] 24)).heap.size) (by simp)
  have hr2 := (hd1.lrow2 hp hq).more (C := ((W.drew.alloc (.cells #[.slice (u 0).a (u 0).n (u 0).c, .slice (u 1).a (u 1).n (u 1).c, .slice (u 2).a (u 2).n (u 2).c, .slice (v 0).a (v 0).n (v 0).c, .slice (v 1).a (v 1).n (v 1).c, .slice (v 2).a (v 2).n (v 2).c] 24)).alloc (.cells #[.slice (p 0).a (p 0).n (p 0).c, .slice (p 1).a (p 1).n (p 1).c, .slice (p 2).a (p 2).n (p 2).c, .slice (q 0).a (q 0).n (q 0).c, .slice (q 1).a (q 1).n (q 1).c, .slice (q 2).a (q 2).n (q 2).c] 24)).heap.size) (by simp)
  have e1 : (W.drew.alloc (.cells #[.slice (u 0).a (u 0).n (u 0).c, .slice (u 1).a (u 1).n (u 1).c, .slice (u 2).a (u 2).n (u 2).c, .slice (v 0).a (v 0).n (v 0).c, .slice (v 1).a (v 1).n (v 1).c, .slice (v 2).a (v 2).n (v 2).c] 24)).heap.size = W.heap.size + 1 := by simp
  rw [e1] at hr2
  refine (all2_at (hd1.alloc _) hr hN hn).mono ?_
  rintro e w' ⟨A, c, he, h', hb⟩
  exact ⟨A, c, he, h', hr2.next hb⟩
/-- .. both were laid, its own last. -/
theorem all2_c (h : Has w W bs ls rs) (hu : (u, f) ∈ ls) (hv : (v, g) ∈ ls) (hp : (p, P) ∈ ls) (hq : (q, Q) ∈ ls) {N : Nat} (hN : cnt3 f + cnt3 g = N) (hn : N ≤ 2000000) :
    Calls Try.prog 21 #[.slice (some ⟨W.heap.size + 1, 0, none⟩) 2 2] ((W.drew.alloc (.cells #[.slice (p 0).a (p 0).n (p 0).c, .slice (p 1).a (p 1).n (p 1).c, .slice (p 2).a (p 2).n (p 2).c, .slice (q 0).a (q 0).n (q 0).c, .slice (q 1).a (q 1).n (q 1).c, .slice (q 2).a (q 2).n (q 2).c] 24)).alloc (.cells #[.slice (u 0).a (u 0).n (u 0).c, .slice (u 1).a (u 1).n (u 1).c, .slice (u 2).a (u 2).n (u 2).c, .slice (v 0).a (v 0).n (v 0).c, .slice (v 1).a (v 1).n (v 1).c, .slice (v 2).a (v 2).n (v 2).c] 24)) fun e w' => ∃ A c, e = .returned (.slice A N c) ∧ Has w w' bs ls ((⟨A, N, c⟩, upTo f 3 ++ upTo g 3) :: rs) ∧ LRow w' w'.heap.size (some ⟨W.heap.size, 0, none⟩) 2 (two p q) (two P Q) := by
  have hd := has_drawn h
  have hd1 := hd.alloc (.cells #[.slice (p 0).a (p 0).n (p 0).c, .slice (p 1).a (p 1).n (p 1).c, .slice (p 2).a (p 2).n (p 2).c, .slice (q 0).a (q 0).n (q 0).c, .slice (q 1).a (q 1).n (q 1).c, .slice (q 2).a (q 2).n (q 2).c] 24)
  have hr := ((hd.lrow2 hp hq).below ((Below.refl _ _).alloc (by rw [World.size_alloc]; exact Nat.le_refl _) (.cells #[.slice (u 0).a (u 0).n (u 0).c, .slice (u 1).a (u 1).n (u 1).c, .slice (u 2).a (u 2).n (u 2).c, .slice (v 0).a (v 0).n (v 0).c, .slice (v 1).a (v 1).n (v 1).c, .slice (v 2).a (v 2).n (v 2).c] 24))).more (C := ((W.drew.alloc (.cells #[.slice (p 0).a (p 0).n (p 0).c, .slice (p 1).a (p 1).n (p 1).c, .slice (p 2).a (p 2).n (p 2).c, .slice (q 0).a (q 0).n (q 0).c, .slice (q 1).a (q 1).n (q 1).c, .slice (q 2).a (q 2).n (q 2).c] 24)).alloc (.cells #[.slice (u 0).a (u 0).n (u 0).c, .slice (u 1).a (u 1).n (u 1).c, .slice (u 2).a (u 2).n (u 2).c, .slice (v 0).a (v 0).n (v 0).c, .slice (v 1).a (v 1).n (v 1).c, .slice (v 2).a (v 2).n (v 2).c] 24)).heap.size) (by simp)
  have hr2 := (hd1.lrow2 hu hv).more (C := ((W.drew.alloc (.cells #[.slice (p 0).a (p 0).n (p 0).c, .slice (p 1).a (p 1).n (p 1).c, .slice (p 2).a (p 2).n (p 2).c, .slice (q 0).a (q 0).n (q 0).c, .slice (q 1).a (q 1).n (q 1).c, .slice (q 2).a (q 2).n (q 2).c] 24)).alloc (.cells #[.slice (u 0).a (u 0).n (u 0).c, .slice (u 1).a (u 1).n (u 1).c, .slice (u 2).a (u 2).n (u 2).c, .slice (v 0).a (v 0).n (v 0).c, .slice (v 1).a (v 1).n (v 1).c, .slice (v 2).a (v 2).n (v 2).c] 24)).heap.size) (by simp)
  have e1 : (W.drew.alloc (.cells #[.slice (p 0).a (p 0).n (p 0).c, .slice (p 1).a (p 1).n (p 1).c, .slice (p 2).a (p 2).n (p 2).c, .slice (q 0).a (q 0).n (q 0).c, .slice (q 1).a (q 1).n (q 1).c, .slice (q 2).a (q 2).n (q 2).c] 24)).heap.size = W.heap.size + 1 := by simp
  rw [e1] at hr2
  refine (all2_at (hd1.alloc _) hr2 hN hn).mono ?_
  rintro e w' ⟨A, c, he, h', hb⟩
  exact ⟨A, c, he, h', hr.next hb⟩
/-- .. the second call, its slice laid behind the first one. -/
theorem all2_d (h : Has w W bs ls rs) (hu : (u, f) ∈ ls) (hv : (v, g) ∈ ls) {N : Nat} (hN : cnt3 f + cnt3 g = N) (hn : N ≤ 2000000) :
    Calls Try.prog 21 #[.slice (some ⟨W.heap.size, 0, none⟩) 2 2] (W.alloc (.cells #[.slice (u 0).a (u 0).n (u 0).c, .slice (u 1).a (u 1).n (u 1).c, .slice (u 2).a (u 2).n (u 2).c, .slice (v 0).a (v 0).n (v 0).c, .slice (v 1).a (v 1).n (v 1).c, .slice (v 2).a (v 2).n (v 2).c] 24)) fun e w' => ∃ A c, e = .returned (.slice A N c) ∧ Has w w' bs ls ((⟨A, N, c⟩, upTo f 3 ++ upTo g 3) :: rs) ∧ True := by
  have hr := (h.lrow2 hu hv).more (C := (W.alloc (.cells #[.slice (u 0).a (u 0).n (u 0).c, .slice (u 1).a (u 1).n (u 1).c, .slice (u 2).a (u 2).n (u 2).c, .slice (v 0).a (v 0).n (v 0).c, .slice (v 1).a (v 1).n (v 1).c, .slice (v 2).a (v 2).n (v 2).c] 24)).heap.size) (by simp)
  refine (all2_at (h.alloc _) hr hN hn).mono ?_
  rintro e w' ⟨A, c, he, h', _⟩
  exact ⟨A, c, he, h', trivial⟩

/-- What All returned is the walk's own: it may be appended to; what was there stands. -/
def Ready (w W : World) (bs : List (Nat × (Nat → Sl))) (ls : List ((Nat → Sl) × (Nat → List Int))) (rs : List (Sl × List Int)) (A : Option Addr) (M c : Nat) (X : List Int) : Prop :=
  ∃ W0, Has w W0 bs ls rs ∧ Below W0.heap.size W0 W ∧ W.ownsRow W0.heap.size 3 1 (.slice A M c) M (X.map (Value.int .i64))
theorem Ready.has {A : Option Addr} {M c : Nat} {X : List Int} (h : Ready w W bs ls rs A M c X) : Has w W bs ls rs := by
  obtain ⟨W0, h0, hb, _⟩ := h
  exact h0.next hb
theorem Ready.row {A : Option Addr} {M c : Nat} {X : List Int} (h : Ready w W bs ls rs A M c X) : Has w W bs ls ((⟨A, M, c⟩, X) :: rs) := by
  have h1 := h.has
  obtain ⟨W0, _, _, ho⟩ := h
  obtain ⟨a1, c1, e1, r1, _, _⟩ := owns_row ho
  simp only [Value.slice.injEq, true_and] at e1
  obtain ⟨rfl, rfl⟩ := e1
  exact h1.rowOf (s := ⟨A, M, c⟩) r1
/-- All of one value of lists that lies in a slice. -/
theorem all1_at (h : Has w W bs ls rs) {b : Nat} (hr : LRow W W.heap.size (some ⟨b, 0, none⟩) 1 (fun _ => u) (fun _ => f)) {N : Nat} (hN : cnt3 f = N) (hn : N ≤ 2000000) :
    Calls Try.prog 21 #[.slice (some ⟨b, 0, none⟩) 1 1] W fun e w' => ∃ A c, e = .returned (.slice A N c) ∧ Ready w w' bs ls rs A N c (upTo f 3) ∧ Below W.heap.size W w' := by
  have hl : (allOf (fun _ => f) 1).length = N := (cnt_one f).trans hN
  refine (all_any _ _ 1 1 _ _ _ hr (Nat.le_refl _) (by decide) (by omega)).mono ?_
  rintro e w' ⟨s, rfl, ho, hb⟩
  have hs : s.n = N := by rw [← hl]; simpa using ho.1.symm
  rw [all_one] at ho
  rw [hs] at ho ⊢
  exact ⟨s.a, s.c, rfl, ⟨W, h, hb, ho⟩, hb⟩
theorem all1_a (h : Has w W bs ls rs) (hu : (u, f) ∈ ls) {N : Nat} (hN : cnt3 f = N) (hn : N ≤ 2000000) :
    Calls Try.prog 21 #[.slice (some ⟨W.heap.size, 0, none⟩) 1 1] (W.drew.alloc (.cells #[.slice (u 0).a (u 0).n (u 0).c, .slice (u 1).a (u 1).n (u 1).c, .slice (u 2).a (u 2).n (u 2).c] 24)) fun e w' => ∃ A c, e = .returned (.slice A N c) ∧ Has w w' bs ls ((⟨A, N, c⟩, upTo f 3) :: rs) ∧ True := by
  have hd := has_drawn h
  have hr := (hd.lrow1 hu).more (C := (W.drew.alloc (.cells #[.slice (u 0).a (u 0).n (u 0).c, .slice (u 1).a (u 1).n (u 1).c, .slice (u 2).a (u 2).n (u 2).c] 24)).heap.size) (by simp)
  refine (all1_at (hd.alloc _) hr hN hn).mono ?_
  rintro e w' ⟨A, c, he, h', _⟩
  exact ⟨A, c, he, h'.row, trivial⟩
theorem all1_b (h : Has w W bs ls rs) (hu : (u, f) ∈ ls) (hp : (p, P) ∈ ls) {N : Nat} (hN : cnt3 f = N) (hn : N ≤ 2000000) :
    Calls Try.prog 21 #[.slice (some ⟨W.heap.size, 0, none⟩) 1 1] ((W.drew.alloc (.cells #[.slice (u 0).a (u 0).n (u 0).c, .slice (u 1).a (u 1).n (u 1).c, .slice (u 2).a (u 2).n (u 2).c] 24)).alloc (.cells #[.slice (p 0).a (p 0).n (p 0).c, .slice (p 1).a (p 1).n (p 1).c, .slice (p 2).a (p 2).n (p 2).c] 24)) fun e w' => ∃ A c, e = .returned (.slice A N c) ∧ Has w w' bs ls ((⟨A, N, c⟩, upTo f 3) :: rs) ∧ LRow w' w'.heap.size (some ⟨W.heap.size + 1, 0, none⟩) 1 (fun _ => p) (fun _ => P) := by
  have hd := has_drawn h
  have hd1 := hd.alloc (.cells #[.slice (u 0).a (u 0).n (u 0).c, .slice (u 1).a (u 1).n (u 1).c, .slice (u 2).a (u 2).n (u 2).c] 24)
  have hr := ((hd.lrow1 hu).below ((Below.refl _ _).alloc (by rw [World.size_alloc]; exact Nat.le_refl _) (.cells #[.slice (p 0).a (p 0).n (p 0).c, .slice (p 1).a (p 1).n (p 1).c, .slice (p 2).a (p 2).n (p 2).c] 24))).more (C := ((W.drew.alloc (.cells #[.slice (u 0).a (u 0).n (u 0).c, .slice (u 1).a (u 1).n (u 1).c, .slice (u 2).a (u 2).n (u 2).c] 24)).alloc (.cells #[.slice (p 0).a (p 0).n (p 0).c, .slice (p 1).a (p 1).n (p 1).c, .slice (p 2).a (p 2).n (p 2).c] 24)).heap.size) (by simp)
  have hr2 := (hd1.lrow1 hp).more (C := ((W.drew.alloc (.cells #[.slice (u 0).a (u 0).n (u 0).c, .slice (u 1).a (u 1).n (u 1).c, .slice (u 2).a (u 2).n (u 2).c] 24)).alloc (.cells #[.slice (p 0).a (p 0).n (p 0).c, .slice (p 1).a (p 1).n (p 1).c, .slice (p 2).a (p 2).n (p 2).c] 24)).heap.size) (by simp)
  have e1 : (W.drew.alloc (.cells #[.slice (u 0).a (u 0).n (u 0).c, .slice (u 1).a (u 1).n (u 1).c, .slice (u 2).a (u 2).n (u 2).c] 24)).heap.size = W.heap.size + 1 := by simp
  rw [e1] at hr2
  refine (all1_at (hd1.alloc _) hr hN hn).mono ?_
  rintro e w' ⟨A, c, he, h', hb⟩
  exact ⟨A, c, he, h'.row, hr2.next hb⟩
theorem all1_c (h : Has w W bs ls rs) (hu : (u, f) ∈ ls) (hp : (p, P) ∈ ls) {N : Nat} (hN : cnt3 f = N) (hn : N ≤ 2000000) :
    Calls Try.prog 21 #[.slice (some ⟨W.heap.size + 1, 0, none⟩) 1 1] ((W.drew.alloc (.cells #[.slice (p 0).a (p 0).n (p 0).c, .slice (p 1).a (p 1).n (p 1).c, .slice (p 2).a (p 2).n (p 2).c] 24)).alloc (.cells #[.slice (u 0).a (u 0).n (u 0).c, .slice (u 1).a (u 1).n (u 1).c, .slice (u 2).a (u 2).n (u 2).c] 24)) fun e w' => ∃ A c, e = .returned (.slice A N c) ∧ Has w w' bs ls ((⟨A, N, c⟩, upTo f 3) :: rs) ∧ LRow w' w'.heap.size (some ⟨W.heap.size, 0, none⟩) 1 (fun _ => p) (fun _ => P) := by
  have hd := has_drawn h
  have hd1 := hd.alloc (.cells #[.slice (p 0).a (p 0).n (p 0).c, .slice (p 1).a (p 1).n (p 1).c, .slice (p 2).a (p 2).n (p 2).c] 24)
  have hr := ((hd.lrow1 hp).below ((Below.refl _ _).alloc (by rw [World.size_alloc]; exact Nat.le_refl _) (.cells #[.slice (u 0).a (u 0).n (u 0).c, .slice (u 1).a (u 1).n (u 1).c, .slice (u 2).a (u 2).n (u 2).c] 24))).more (C := ((W.drew.alloc (.cells #[.slice (p 0).a (p 0).n (p 0).c, .slice (p 1).a (p 1).n (p 1).c, .slice (p 2).a (p 2).n (p 2).c] 24)).alloc (.cells #[.slice (u 0).a (u 0).n (u 0).c, .slice (u 1).a (u 1).n (u 1).c, .slice (u 2).a (u 2).n (u 2).c] 24)).heap.size) (by simp)
  have hr2 := (hd1.lrow1 hu).more (C := ((W.drew.alloc (.cells #[.slice (p 0).a (p 0).n (p 0).c, .slice (p 1).a (p 1).n (p 1).c, .slice (p 2).a (p 2).n (p 2).c] 24)).alloc (.cells #[.slice (u 0).a (u 0).n (u 0).c, .slice (u 1).a (u 1).n (u 1).c, .slice (u 2).a (u 2).n (u 2).c] 24)).heap.size) (by simp)
  have e1 : (W.drew.alloc (.cells #[.slice (p 0).a (p 0).n (p 0).c, .slice (p 1).a (p 1).n (p 1).c, .slice (p 2).a (p 2).n (p 2).c] 24)).heap.size = W.heap.size + 1 := by simp
  rw [e1] at hr2
  refine (all1_at (hd1.alloc _) hr2 hN hn).mono ?_
  rintro e w' ⟨A, c, he, h', hb⟩
  exact ⟨A, c, he, h'.row, hr.next hb⟩
theorem all1_d (h : Has w W bs ls rs) (hu : (u, f) ∈ ls) {N : Nat} (hN : cnt3 f = N) (hn : N ≤ 2000000) :
    Calls Try.prog 21 #[.slice (some ⟨W.heap.size, 0, none⟩) 1 1] (W.alloc (.cells #[.slice (u 0).a (u 0).n (u 0).c, .slice (u 1).a (u 1).n (u 1).c, .slice (u 2).a (u 2).n (u 2).c] 24)) fun e w' => ∃ A c, e = .returned (.slice A N c) ∧ Ready w w' bs ls rs A N c (upTo f 3) ∧ True := by
  have hr := (h.lrow1 hu).more (C := (W.alloc (.cells #[.slice (u 0).a (u 0).n (u 0).c, .slice (u 1).a (u 1).n (u 1).c, .slice (u 2).a (u 2).n (u 2).c] 24)).heap.size) (by simp)
  refine (all1_at (h.alloc _) hr hN hn).mono ?_
  rintro e w' ⟨A, c, he, h', _⟩
  exact ⟨A, c, he, h', trivial⟩
theorem all1_e (h : Has w W bs ls rs) {b : Nat} (hr : LRow W W.heap.size (some ⟨b, 0, none⟩) 1 (fun _ => u) (fun _ => f)) {N : Nat} (hN : cnt3 f = N) (hn : N ≤ 2000000) :
    Calls Try.prog 21 #[.slice (some ⟨b, 0, none⟩) 1 1] W fun e w' => ∃ A c, e = .returned (.slice A N c) ∧ Ready w w' bs ls rs A N c (upTo f 3) ∧ True := by
  refine (all1_at h hr hN hn).mono ?_
  rintro e w' ⟨A, c, he, h', _⟩
  exact ⟨A, c, he, h', trivial⟩
theorem all2_e (h : Has w W bs ls rs) {b : Nat} (hr : LRow W W.heap.size (some ⟨b, 0, none⟩) 2 (two u v) (two f g)) {N : Nat} (hN : cnt3 f + cnt3 g = N) (hn : N ≤ 2000000) :
    Calls Try.prog 21 #[.slice (some ⟨b, 0, none⟩) 2 2] W fun e w' => ∃ A c, e = .returned (.slice A N c) ∧ Has w w' bs ls ((⟨A, N, c⟩, upTo f 3 ++ upTo g 3) :: rs) ∧ True := by
  refine (all2_at h hr hN hn).mono ?_
  rintro e w' ⟨A, c, he, h', _⟩
  exact ⟨A, c, he, h', trivial⟩
theorem all2_a' (h : Has w W bs ls rs) (hu : (u, f) ∈ ls) (hv : (v, g) ∈ ls) {N : Nat} (hN : cnt3 f + cnt3 g = N) (hn : N ≤ 2000000) :
    Calls Try.prog 21 #[.slice (some ⟨W.heap.size, 0, none⟩) 2 2] ((W.alloc (.cells #[.slice (u 0).a (u 0).n (u 0).c, .slice (u 1).a (u 1).n (u 1).c, .slice (u 2).a (u 2).n (u 2).c, .slice (v 0).a (v 0).n (v 0).c, .slice (v 1).a (v 1).n (v 1).c, .slice (v 2).a (v 2).n (v 2).c] 24)).drew) fun e w' => ∃ A c, e = .returned (.slice A N c) ∧ Has w w' bs ls ((⟨A, N, c⟩, upTo f 3 ++ upTo g 3) :: rs) ∧ True := by
  exact all2_a h hu hv hN hn
theorem all2_b' (h : Has w W bs ls rs) (hu : (u, f) ∈ ls) (hv : (v, g) ∈ ls) (hp : (p, P) ∈ ls) (hq : (q, Q) ∈ ls) {N : Nat} (hN : cnt3 f + cnt3 g = N) (hn : N ≤ 2000000) :
    Calls Try.prog 21 #[.slice (some ⟨W.heap.size, 0, none⟩) 2 2] (((W.alloc (.cells #[.slice (u 0).a (u 0).n (u 0).c, .slice (u 1).a (u 1).n (u 1).c, .slice (u 2).a (u 2).n (u 2).c, .slice (v 0).a (v 0).n (v 0).c, .slice (v 1).a (v 1).n (v 1).c, .slice (v 2).a (v 2).n (v 2).c] 24)).alloc (.cells #[.slice (p 0).a (p 0).n (p 0).c, .slice (p 1).a (p 1).n (p 1).c, .slice (p 2).a (p 2).n (p 2).c, .slice (q 0).a (q 0).n (q 0).c, .slice (q 1).a (q 1).n (q 1).c, .slice (q 2).a (q 2).n (q 2).c] 24)).drew) fun e w' => ∃ A c, e = .returned (.slice A N c) ∧ Has w w' bs ls ((⟨A, N, c⟩, upTo f 3 ++ upTo g 3) :: rs) ∧ LRow w' w'.heap.size (some ⟨W.heap.size + 1, 0, none⟩) 2 (two p q) (two P Q) := by
  exact all2_b h hu hv hp hq hN hn
theorem all2_c' (h : Has w W bs ls rs) (hu : (u, f) ∈ ls) (hv : (v, g) ∈ ls) (hp : (p, P) ∈ ls) (hq : (q, Q) ∈ ls) {N : Nat} (hN : cnt3 f + cnt3 g = N) (hn : N ≤ 2000000) :
    Calls Try.prog 21 #[.slice (some ⟨W.heap.size + 1, 0, none⟩) 2 2] (((W.alloc (.cells #[.slice (p 0).a (p 0).n (p 0).c, .slice (p 1).a (p 1).n (p 1).c, .slice (p 2).a (p 2).n (p 2).c, .slice (q 0).a (q 0).n (q 0).c, .slice (q 1).a (q 1).n (q 1).c, .slice (q 2).a (q 2).n (q 2).c] 24)).alloc (.cells #[.slice (u 0).a (u 0).n (u 0).c, .slice (u 1).a (u 1).n (u 1).c, .slice (u 2).a (u 2).n (u 2).c, .slice (v 0).a (v 0).n (v 0).c, .slice (v 1).a (v 1).n (v 1).c, .slice (v 2).a (v 2).n (v 2).c] 24)).drew) fun e w' => ∃ A c, e = .returned (.slice A N c) ∧ Has w w' bs ls ((⟨A, N, c⟩, upTo f 3 ++ upTo g 3) :: rs) ∧ LRow w' w'.heap.size (some ⟨W.heap.size, 0, none⟩) 2 (two p q) (two P Q) := by
  exact all2_c h hu hv hp hq hN hn
theorem all1_a' (h : Has w W bs ls rs) (hu : (u, f) ∈ ls) {N : Nat} (hN : cnt3 f = N) (hn : N ≤ 2000000) :
    Calls Try.prog 21 #[.slice (some ⟨W.heap.size, 0, none⟩) 1 1] ((W.alloc (.cells #[.slice (u 0).a (u 0).n (u 0).c, .slice (u 1).a (u 1).n (u 1).c, .slice (u 2).a (u 2).n (u 2).c] 24)).drew) fun e w' => ∃ A c, e = .returned (.slice A N c) ∧ Has w w' bs ls ((⟨A, N, c⟩, upTo f 3) :: rs) ∧ True := by
  exact all1_a h hu hN hn
theorem all1_b' (h : Has w W bs ls rs) (hu : (u, f) ∈ ls) (hp : (p, P) ∈ ls) {N : Nat} (hN : cnt3 f = N) (hn : N ≤ 2000000) :
    Calls Try.prog 21 #[.slice (some ⟨W.heap.size, 0, none⟩) 1 1] (((W.alloc (.cells #[.slice (u 0).a (u 0).n (u 0).c, .slice (u 1).a (u 1).n (u 1).c, .slice (u 2).a (u 2).n (u 2).c] 24)).alloc (.cells #[.slice (p 0).a (p 0).n (p 0).c, .slice (p 1).a (p 1).n (p 1).c, .slice (p 2).a (p 2).n (p 2).c] 24)).drew) fun e w' => ∃ A c, e = .returned (.slice A N c) ∧ Has w w' bs ls ((⟨A, N, c⟩, upTo f 3) :: rs) ∧ LRow w' w'.heap.size (some ⟨W.heap.size + 1, 0, none⟩) 1 (fun _ => p) (fun _ => P) := by
  exact all1_b h hu hp hN hn
theorem all1_c' (h : Has w W bs ls rs) (hu : (u, f) ∈ ls) (hp : (p, P) ∈ ls) {N : Nat} (hN : cnt3 f = N) (hn : N ≤ 2000000) :
    Calls Try.prog 21 #[.slice (some ⟨W.heap.size + 1, 0, none⟩) 1 1] (((W.alloc (.cells #[.slice (p 0).a (p 0).n (p 0).c, .slice (p 1).a (p 1).n (p 1).c, .slice (p 2).a (p 2).n (p 2).c] 24)).alloc (.cells #[.slice (u 0).a (u 0).n (u 0).c, .slice (u 1).a (u 1).n (u 1).c, .slice (u 2).a (u 2).n (u 2).c] 24)).drew) fun e w' => ∃ A c, e = .returned (.slice A N c) ∧ Has w w' bs ls ((⟨A, N, c⟩, upTo f 3) :: rs) ∧ LRow w' w'.heap.size (some ⟨W.heap.size, 0, none⟩) 1 (fun _ => p) (fun _ => P) := by
  exact all1_c h hu hp hN hn
/-- Append to it, of a slice that is at hand, at a step of a region that draws its order. -/
theorem step_ready {ops : Array Oper} {o : Oper} {a : Act} {K : Act → World → Prop} {R : Exit → Act → World → Prop} {E : Prop} (hgd : o.guard = none) (s x : Operand)
    (ho : o.op = .call { callee := .builtin .append, args := #[s, x], argTypes := #[22, 22] }) {A : Option Addr} {M c : Nat} {X Y : List Int} {S : Sl}
    (hs : a.eval s = .slice A M c) (hx : a.eval x = .slice S.a S.n S.c) (h : Ready w W bs ls rs A M c X) (hm : (S, Y) ∈ rs) (hlen : M + S.n ≤ 4000000)
    (hK : ∀ p' cp' w', Has w w' bs ls ((⟨p', M + S.n, cp'⟩, X ++ Y) :: rs) → K (a.put o.dst (.slice p' (M + S.n) cp')) w') : if Region.wanted o (yielded ops a.tmps) = true then Oper.wp Try.prog o a W K R else E := by
  have hh := h.has
  have hrow := hh.rw_ hm
  obtain ⟨W0, h0, hb, hown⟩ := h
  refine step_cat hgd s x ho hs hx hown hrow hb.size hlen fun p' cp' w' hc => hK p' cp' w' ?_
  have hb' : Below W0.heap.size W0 w' := hb.grown hc.grown hb.size fun k hk => (hown.lt k hk).1
  obtain ⟨a1, c1, e1, r1, _, _⟩ := owns_row hc.own
  simp only [Value.slice.injEq, true_and] at e1
  obtain ⟨rfl, rfl⟩ := e1
  exact (h0.next hb').rowOf (s := ⟨p', M + S.n, cp'⟩) r1
/-- The law's same, of two slices at hand. -/
theorem law_same (h : Has w W bs ls rs) {A B : Option Addr} {N M c d : Nat} {X Y : List Int} (hX : (⟨A, N, c⟩, X) ∈ rs) (hY : (⟨B, M, d⟩, Y) ∈ rs) (hM : M = N) (hN : N ≤ 4000000) (hm : ∀ x, x ∈ X → x ∈ Y) :
    Calls Try.prog 25 #[.slice A N c, .slice B M d] W fun e w' => e = .returned (.bool true) ∧ Has w w' bs ls rs := by
  subst hM
  refine (sameLaw_any W.heap.size W.heap.size A B M c d X Y W hN (h.rw_ hX) (h.rw_ hY) hm).mono ?_
  rintro e w' ⟨rfl, hb⟩
  exact ⟨rfl, h.next hb⟩
/-- The cells of four boxes, of two. -/
theorem cells4 {b0 b1 b2 b3 : Nat} (h : Has w W bs ls rs) (h0 : (b0, u) ∈ bs) (h1 : (b1, v) ∈ bs) (h2 : (b2, p) ∈ bs) (h3 : (b3, q) ∈ bs) : W.cell? ⟨b0, 0, none⟩ = some (.slice (u 0).a (u 0).n (u 0).c) ∧ W.cell? ⟨b0, 1, none⟩ = some (.slice (u 1).a (u 1).n (u 1).c) ∧ W.cell? ⟨b0, 2, none⟩ = some (.slice (u 2).a (u 2).n (u 2).c) ∧ b0 < W.heap.size ∧ W.cell? ⟨b1, 0, none⟩ = some (.slice (v 0).a (v 0).n (v 0).c) ∧ W.cell? ⟨b1, 1, none⟩ = some (.slice (v 1).a (v 1).n (v 1).c) ∧ W.cell? ⟨b1, 2, none⟩ = some (.slice (v 2).a (v 2).n (v 2).c) ∧ b1 < W.heap.size ∧ W.cell? ⟨b2, 0, none⟩ = some (.slice (p 0).a (p 0).n (p 0).c) ∧ W.cell? ⟨b2, 1, none⟩ = some (.slice (p 1).a (p 1).n (p 1).c) ∧ W.cell? ⟨b2, 2, none⟩ = some (.slice (p 2).a (p 2).n (p 2).c) ∧ b2 < W.heap.size ∧ W.cell? ⟨b3, 0, none⟩ = some (.slice (q 0).a (q 0).n (q 0).c) ∧ W.cell? ⟨b3, 1, none⟩ = some (.slice (q 1).a (q 1).n (q 1).c) ∧ W.cell? ⟨b3, 2, none⟩ = some (.slice (q 2).a (q 2).n (q 2).c) ∧ b3 < W.heap.size := by
  have x0 := h.at h0
  have x1 := h.at h1
  have x2 := h.at h2
  have x3 := h.at h3
  exact ⟨x0.cell 0 (by decide), x0.cell 1 (by decide), x0.cell 2 (by decide), x0.lt, x1.cell 0 (by decide), x1.cell 1 (by decide), x1.cell 2 (by decide), x1.lt, x2.cell 0 (by decide), x2.cell 1 (by decide), x2.cell 2 (by decide), x2.lt, x3.cell 0 (by decide), x3.cell 1 (by decide), x3.cell 2 (by decide), x3.lt⟩
theorem cells2 {b0 b1 : Nat} (h : Has w W bs ls rs) (h0 : (b0, u) ∈ bs) (h1 : (b1, v) ∈ bs) : W.cell? ⟨b0, 0, none⟩ = some (.slice (u 0).a (u 0).n (u 0).c) ∧ W.cell? ⟨b0, 1, none⟩ = some (.slice (u 1).a (u 1).n (u 1).c) ∧ W.cell? ⟨b0, 2, none⟩ = some (.slice (u 2).a (u 2).n (u 2).c) ∧ b0 < W.heap.size ∧ W.cell? ⟨b1, 0, none⟩ = some (.slice (v 0).a (v 0).n (v 0).c) ∧ W.cell? ⟨b1, 1, none⟩ = some (.slice (v 1).a (v 1).n (v 1).c) ∧ W.cell? ⟨b1, 2, none⟩ = some (.slice (v 2).a (v 2).n (v 2).c) ∧ b1 < W.heap.size := by
  have x0 := h.at h0
  have x1 := h.at h1
  exact ⟨x0.cell 0 (by decide), x0.cell 1 (by decide), x0.cell 2 (by decide), x0.lt, x1.cell 0 (by decide), x1.cell 1 (by decide), x1.cell 2 (by decide), x1.lt⟩
end
end Go.Proofs.Ytegggfghocicaaa
