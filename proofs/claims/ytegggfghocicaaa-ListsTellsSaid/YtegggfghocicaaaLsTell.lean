/-
  What Push, Pop, Move and Part tell, package lists' and the reference's alike: one Lean function of what they are given.
-/
import Derived.Test.YtegggfghocicaaaLsRPart
namespace Go.Proofs.Ytegggfghocicaaa
open Go.RowKit

def errCl (cl : Int) : Int := if isCl cl = true then 0 else 1
def pushF (f : Nat → List Int) (cl : Int) (ys : List Int) : Nat → List Int := if isCl cl = true then upd f cl.toNat (f cl.toNat ++ ys) else noLists
def popF (f : Nat → List Int) (cl : Int) : Nat → List Int := if isCl cl = true then (if (f cl.toNat).length = 0 then noLists else upd f cl.toNat ((f cl.toNat).take ((f cl.toNat).length - 1))) else noLists
def popA (f : Nat → List Int) (cl : Int) : Int := if isCl cl = true then (if (f cl.toNat).length = 0 then 0 else (f cl.toNat).getD ((f cl.toNat).length - 1) 0) else 0
def popE (f : Nat → List Int) (cl : Int) : Int := if isCl cl = true then (if (f cl.toNat).length = 0 then 3 else 0) else 1
def moveF (f : Nat → List Int) (cl n : Int) : Nat → List Int := if isCl cl = true then (if n < 0 then noLists else upd f cl.toNat ((f cl.toNat).take ((f cl.toNat).length - n.toNat))) else noLists
def moveG (f g : Nat → List Int) (cl n : Int) : Nat → List Int := if isCl cl = true then (if n < 0 then noLists else upd g cl.toNat (g cl.toNat ++ ((f cl.toNat).drop ((f cl.toNat).length - n.toNat)).reverse)) else noLists
def moveE (cl n : Int) : Int := if isCl cl = true then (if n < 0 then 1 else 0) else 1
def partF (f : Nat → List Int) (cl low high : Int) : Nat → List Int := if isCl cl = true then upd f cl.toNat (outOf low high (f cl.toNat)) else noLists
def partS (f : Nat → List Int) (cl low high : Int) : List Int := if isCl cl = true then inOf low high (f cl.toNat) else []
theorem cl_of {cl : Int} (h : isCl cl = true) : ∃ k : Nat, cl = k ∧ k < 3 := by
  obtain ⟨h0, h1⟩ := isCl_iff.1 h
  obtain ⟨k, rfl⟩ := Int.eq_ofNat_of_zero_le h0
  exact ⟨k, rfl, by omega⟩
section
variable {w W : World} {bs : List (Nat × (Nat → Sl))} {ls : List ((Nat → Sl) × (Nat → List Int))} {rs : List (Sl × List Int)} {u v : Nat → Sl} {f g : Nat → List Int}
def fewB (u : Nat → Sl) : Bool := decide ((u 0).n ≤ 200 ∧ (u 1).n ≤ 200 ∧ (u 2).n ≤ 200)
theorem few_all {u : Nat → Sl} (h : fewB u = true) : ∀ j, j < 3 → (u j).n ≤ 200 := by
  obtain ⟨h0, h1, h2⟩ := of_decide_eq_true h
  intro j hj
  match j, hj with
  | 0, _ => exact h0
  | 1, _ => exact h1
  | 2, _ => exact h2
theorem few_any (u : Nat → Sl) (w : World) : Calls Try.prog 10 #[(.agg #[.slice (u 0).a (u 0).n (u 0).c, .slice (u 1).a (u 1).n (u 1).c, .slice (u 2).a (u 2).n (u 2).c])] w fun e w' => e = .returned (.bool (fewB u)) ∧ Below w.heap.size w w' := by
  by_cases h0 : (u 0).n ≤ 200
  · have a0 : decide (((u 0).n : Int) ≤ 200) = true := by simp; omega
    by_cases h1 : (u 1).n ≤ 200
    · have a1 : decide (((u 1).n : Int) ≤ 200) = true := by simp; omega
      by_cases h2 : (u 2).n ≤ 200
      · have a2 : decide (((u 2).n : Int) ≤ 200) = true := by simp; omega
        have e : fewB u = true := decide_eq_true ⟨h0, h1, h2⟩
        rw [e]
        clear h0 h1 h2 e
        go_enter Try.func10, Try.ntmps10
        go_wp2
        go_ret
        exact ⟨rfl, (Below.refl _ _).alloc (Nat.le_refl _) _⟩
      · have a2 : decide (((u 2).n : Int) ≤ 200) = false := by simp; omega
        have e : fewB u = false := decide_eq_false (fun h => h2 h.2.2)
        rw [e]
        clear h0 h1 h2 e
        go_enter Try.func10, Try.ntmps10
        go_wp2
        go_ret
        exact ⟨rfl, (Below.refl _ _).alloc (Nat.le_refl _) _⟩
    · have a1 : decide (((u 1).n : Int) ≤ 200) = false := by simp; omega
      have e : fewB u = false := decide_eq_false (fun h => h1 h.2.1)
      rw [e]
      clear h0 h1 e
      go_enter Try.func10, Try.ntmps10
      go_wp2
      go_ret
      exact ⟨rfl, (Below.refl _ _).alloc (Nat.le_refl _) _⟩
  · have a0 : decide (((u 0).n : Int) ≤ 200) = false := by simp; omega
    have e : fewB u = false := decide_eq_false (fun h => h0 h.1)
    rw [e]
    clear h0 e
    go_enter Try.func10, Try.ntmps10
    go_wp2
    go_ret
    exact ⟨rfl, (Below.refl _ _).alloc (Nat.le_refl _) _⟩
theorem few_has (h : Has w W bs ls rs) (u : Nat → Sl) : Calls Try.prog 10 #[(.agg #[.slice (u 0).a (u 0).n (u 0).c, .slice (u 1).a (u 1).n (u 1).c, .slice (u 2).a (u 2).n (u 2).c])] W fun e W' => e = .returned (.bool (fewB u)) ∧ Has w W' bs ls rs := by
  refine (few_any u W).mono ?_
  rintro e W' ⟨rfl, hb⟩
  exact ⟨rfl, h.next hb⟩
theorem push_tells (h : Has w W bs ls rs) (hu : (u, f) ∈ ls) (hn : ∀ j, j < 3 → (u j).n ≤ 200) (cl : Int) {s : Sl} {ys : List Int} (hr : (s, ys) ∈ rs) (hs : s.n ≤ 50) :
    Calls Try.prog 11 #[(.agg #[.slice (u 0).a (u 0).n (u 0).c, .slice (u 1).a (u 1).n (u 1).c, .slice (u 2).a (u 2).n (u 2).c]), .int .i64 cl, .slice s.a s.n s.c] W fun e W' => ∃ p, e = .returned (.tuple #[(.agg #[.slice (p 0).a (p 0).n (p 0).c, .slice (p 1).a (p 1).n (p 1).c, .slice (p 2).a (p 2).n (p 2).c]), .int .i64 (errCl cl)]) ∧ Has w W' bs ((p, pushF f cl ys) :: ls) rs := by
  have hc : Calls Try.prog 11 #[(.agg #[.slice (u 0).a (u 0).n (u 0).c, .slice (u 1).a (u 1).n (u 1).c, .slice (u 2).a (u 2).n (u 2).c]), .int .i64 cl, .slice s.a s.n s.c] W (POut W (pushF f cl ys) (errCl cl)) := by
    cases hcl : isCl cl
    · simp only [pushF, errCl, hcl, Bool.false_eq_true, if_false]
      exact push_bad u cl _ _ _ W hcl
    · obtain ⟨k, rfl, hk⟩ := cl_of hcl
      simp only [pushF, errCl, hcl, if_true, Int.toNat_natCast]
      exact push_ok W.heap.size u f k hk _ _ _ ys W (h.of hu) (Nat.le_refl _) (fun j hj => Nat.le_trans (hn j hj) (by omega)) (h.rw_ hr) (by omega)
  refine hc.mono ?_
  rintro e W' ⟨p, rfl, hp, hb⟩
  exact ⟨p, rfl, (h.next hb).list hp⟩
theorem pop_tells (h : Has w W bs ls rs) (hu : (u, f) ∈ ls) (hn : ∀ j, j < 3 → (u j).n ≤ 200) (cl : Int) :
    Calls Try.prog 14 #[(.agg #[.slice (u 0).a (u 0).n (u 0).c, .slice (u 1).a (u 1).n (u 1).c, .slice (u 2).a (u 2).n (u 2).c]), .int .i64 cl] W fun e W' => ∃ p, e = .returned (.tuple #[(.agg #[.slice (p 0).a (p 0).n (p 0).c, .slice (p 1).a (p 1).n (p 1).c, .slice (p 2).a (p 2).n (p 2).c]), .int .i64 (popA f cl), .int .i64 (popE f cl)]) ∧ Has w W' bs ((p, popF f cl) :: ls) rs := by
  have hc : Calls Try.prog 14 #[(.agg #[.slice (u 0).a (u 0).n (u 0).c, .slice (u 1).a (u 1).n (u 1).c, .slice (u 2).a (u 2).n (u 2).c]), .int .i64 cl] W (PopOut W (popF f cl) (popA f cl) (popE f cl)) := by
    cases hcl : isCl cl
    · simp only [popF, popA, popE, hcl, Bool.false_eq_true, if_false]
      exact pop_bad u cl W hcl
    · obtain ⟨k, rfl, hk⟩ := cl_of hcl
      have hl := (h.of hu).len k hk
      by_cases h0 : (f k).length = 0
      · simp only [popF, popA, popE, hcl, if_true, Int.toNat_natCast, h0]
        exact pop_none u k hk W (by omega)
      · simp only [popF, popA, popE, hcl, if_true, Int.toNat_natCast, h0, if_false]
        exact pop_ok W.heap.size u f k hk ((f k).length - 1) W (h.of hu) (Nat.le_refl _) (fun j hj => Nat.le_trans (hn j hj) (by omega)) (by omega)
  refine hc.mono ?_
  rintro e W' ⟨p, rfl, hp, hb⟩
  exact ⟨p, rfl, (h.next hb).list hp⟩
theorem move_tells (h : Has w W bs ls rs) (hu : (u, f) ∈ ls) (hv : (v, g) ∈ ls) (hn : ∀ j, j < 3 → (u j).n ≤ 200) (hn' : ∀ j, j < 3 → (v j).n ≤ 200) (cl n : Int) (hx : n ≤ 9223372036854775807) :
    Calls Try.prog 16 #[(.agg #[.slice (u 0).a (u 0).n (u 0).c, .slice (u 1).a (u 1).n (u 1).c, .slice (u 2).a (u 2).n (u 2).c]), (.agg #[.slice (v 0).a (v 0).n (v 0).c, .slice (v 1).a (v 1).n (v 1).c, .slice (v 2).a (v 2).n (v 2).c]), .int .i64 cl, .int .i64 n] W fun e W' => ∃ p q, e = .returned (.tuple #[(.agg #[.slice (p 0).a (p 0).n (p 0).c, .slice (p 1).a (p 1).n (p 1).c, .slice (p 2).a (p 2).n (p 2).c]), (.agg #[.slice (q 0).a (q 0).n (q 0).c, .slice (q 1).a (q 1).n (q 1).c, .slice (q 2).a (q 2).n (q 2).c]), .int .i64 (moveE cl n)]) ∧ Has w W' bs ((p, moveF f cl n) :: (q, moveG f g cl n) :: ls) rs := by
  have hc : Calls Try.prog 16 #[(.agg #[.slice (u 0).a (u 0).n (u 0).c, .slice (u 1).a (u 1).n (u 1).c, .slice (u 2).a (u 2).n (u 2).c]), (.agg #[.slice (v 0).a (v 0).n (v 0).c, .slice (v 1).a (v 1).n (v 1).c, .slice (v 2).a (v 2).n (v 2).c]), .int .i64 cl, .int .i64 n] W (MoveOut W (moveF f cl n) (moveG f g cl n) (moveE cl n)) := by
    cases hcl : isCl cl
    · simp only [moveF, moveG, moveE, hcl, Bool.false_eq_true, if_false]
      exact move_bad u v cl n W hcl
    · by_cases h0 : n < 0
      · simp only [moveF, moveG, moveE, hcl, h0, if_true]
        exact move_neg u v cl n W hcl h0
      · simp only [moveF, moveG, moveE, hcl, h0, if_true, if_false]
        obtain ⟨k, rfl, hk⟩ := cl_of hcl
        obtain ⟨m, rfl⟩ := Int.eq_ofNat_of_zero_le (show 0 ≤ n by omega)
        simp only [Int.toNat_natCast]
        exact move_ok W.heap.size u v f g k m hk W (h.of hu) (h.of hv) (Nat.le_refl _) (fun j hj => Nat.le_trans (hn j hj) (by omega)) (fun j hj => Nat.le_trans (hn' j hj) (by omega)) (by omega)
  refine hc.mono ?_
  rintro e W' ⟨p, q, rfl, hp, hq, hb⟩
  exact ⟨p, q, rfl, ((h.next hb).list hq).list hp⟩
theorem part_tells (h : Has w W bs ls rs) (hu : (u, f) ∈ ls) (hn : ∀ j, j < 3 → (u j).n ≤ 200) (cl low high : Int) :
    Calls Try.prog 18 #[(.agg #[.slice (u 0).a (u 0).n (u 0).c, .slice (u 1).a (u 1).n (u 1).c, .slice (u 2).a (u 2).n (u 2).c]), .int .i64 cl, .int .i64 low, .int .i64 high] W fun e W' => ∃ p s, e = .returned (.tuple #[(.agg #[.slice (p 0).a (p 0).n (p 0).c, .slice (p 1).a (p 1).n (p 1).c, .slice (p 2).a (p 2).n (p 2).c]), .slice (s : Sl).a s.n s.c, .int .i64 (errCl cl)]) ∧ Has w W' bs ((p, partF f cl low high) :: ls) ((s, partS f cl low high) :: rs) := by
  have hc : Calls Try.prog 18 #[(.agg #[.slice (u 0).a (u 0).n (u 0).c, .slice (u 1).a (u 1).n (u 1).c, .slice (u 2).a (u 2).n (u 2).c]), .int .i64 cl, .int .i64 low, .int .i64 high] W (PartOut W (partF f cl low high) (partS f cl low high) (errCl cl)) := by
    cases hcl : isCl cl
    · simp only [partF, partS, errCl, hcl, Bool.false_eq_true, if_false]
      exact part_bad u cl low high W hcl
    · obtain ⟨k, rfl, hk⟩ := cl_of hcl
      simp only [partF, partS, errCl, hcl, if_true, Int.toNat_natCast]
      exact part_ok W.heap.size u f k hk low high W (h.of hu) (Nat.le_refl _) (fun j hj => Nat.le_trans (hn j hj) (by omega))
  refine hc.mono ?_
  rintro e W' ⟨p, s, rfl, hp, hs, hb⟩
  exact ⟨p, s, rfl, ((h.next hb).list hp).rowOf hs.1⟩
theorem rpush_tells (h : Has w W bs ls rs) (hu : (u, f) ∈ ls) (hn : ∀ j, j < 3 → (u j).n ≤ 200) (cl : Int) {s : Sl} {ys : List Int} (hr : (s, ys) ∈ rs) (hs : s.n ≤ 50) :
    Calls Try.prog 12 #[(.agg #[.slice (u 0).a (u 0).n (u 0).c, .slice (u 1).a (u 1).n (u 1).c, .slice (u 2).a (u 2).n (u 2).c]), .int .i64 cl, .slice s.a s.n s.c] W fun e W' => ∃ p, e = .returned (.tuple #[(.agg #[.slice (p 0).a (p 0).n (p 0).c, .slice (p 1).a (p 1).n (p 1).c, .slice (p 2).a (p 2).n (p 2).c]), .int .i64 (errCl cl)]) ∧ Has w W' bs ((p, pushF f cl ys) :: ls) rs := by
  have hc : Calls Try.prog 12 #[(.agg #[.slice (u 0).a (u 0).n (u 0).c, .slice (u 1).a (u 1).n (u 1).c, .slice (u 2).a (u 2).n (u 2).c]), .int .i64 cl, .slice s.a s.n s.c] W (POut W (pushF f cl ys) (errCl cl)) := by
    cases hcl : isCl cl
    · simp only [pushF, errCl, hcl, Bool.false_eq_true, if_false]
      exact rpush_bad u cl _ _ _ W hcl
    · obtain ⟨k, rfl, hk⟩ := cl_of hcl
      simp only [pushF, errCl, hcl, if_true, Int.toNat_natCast]
      exact rpush_ok W.heap.size u f k hk _ _ _ ys W (h.of hu) (Nat.le_refl _) (fun j hj => Nat.le_trans (hn j hj) (by omega)) (h.rw_ hr) (by omega)
  refine hc.mono ?_
  rintro e W' ⟨p, rfl, hp, hb⟩
  exact ⟨p, rfl, (h.next hb).list hp⟩
theorem rpop_tells (h : Has w W bs ls rs) (hu : (u, f) ∈ ls) (hn : ∀ j, j < 3 → (u j).n ≤ 200) (cl : Int) :
    Calls Try.prog 15 #[(.agg #[.slice (u 0).a (u 0).n (u 0).c, .slice (u 1).a (u 1).n (u 1).c, .slice (u 2).a (u 2).n (u 2).c]), .int .i64 cl] W fun e W' => ∃ p, e = .returned (.tuple #[(.agg #[.slice (p 0).a (p 0).n (p 0).c, .slice (p 1).a (p 1).n (p 1).c, .slice (p 2).a (p 2).n (p 2).c]), .int .i64 (popA f cl), .int .i64 (popE f cl)]) ∧ Has w W' bs ((p, popF f cl) :: ls) rs := by
  have hc : Calls Try.prog 15 #[(.agg #[.slice (u 0).a (u 0).n (u 0).c, .slice (u 1).a (u 1).n (u 1).c, .slice (u 2).a (u 2).n (u 2).c]), .int .i64 cl] W (RPopOut W (popF f cl) (popA f cl) (popE f cl)) := by
    cases hcl : isCl cl
    · simp only [popF, popA, popE, hcl, Bool.false_eq_true, if_false]
      exact rpop_bad u cl W hcl
    · obtain ⟨k, rfl, hk⟩ := cl_of hcl
      have hl := (h.of hu).len k hk
      by_cases h0 : (f k).length = 0
      · simp only [popF, popA, popE, hcl, if_true, Int.toNat_natCast, h0]
        exact rpop_none u k hk W (by omega)
      · simp only [popF, popA, popE, hcl, if_true, Int.toNat_natCast, h0, if_false]
        exact rpop_ok W.heap.size u f k hk ((f k).length - 1) W (h.of hu) (Nat.le_refl _) (fun j hj => Nat.le_trans (hn j hj) (by omega)) (by omega)
  refine hc.mono ?_
  rintro e W' ⟨p, rfl, hp, hb, _⟩
  exact ⟨p, rfl, (h.next hb).list hp⟩
theorem rmove_tells (h : Has w W bs ls rs) (hu : (u, f) ∈ ls) (hv : (v, g) ∈ ls) (hn : ∀ j, j < 3 → (u j).n ≤ 200) (hn' : ∀ j, j < 3 → (v j).n ≤ 200) (cl n : Int) (hx : n ≤ 9223372036854775807) :
    Calls Try.prog 17 #[(.agg #[.slice (u 0).a (u 0).n (u 0).c, .slice (u 1).a (u 1).n (u 1).c, .slice (u 2).a (u 2).n (u 2).c]), (.agg #[.slice (v 0).a (v 0).n (v 0).c, .slice (v 1).a (v 1).n (v 1).c, .slice (v 2).a (v 2).n (v 2).c]), .int .i64 cl, .int .i64 n] W fun e W' => ∃ p q, e = .returned (.tuple #[(.agg #[.slice (p 0).a (p 0).n (p 0).c, .slice (p 1).a (p 1).n (p 1).c, .slice (p 2).a (p 2).n (p 2).c]), (.agg #[.slice (q 0).a (q 0).n (q 0).c, .slice (q 1).a (q 1).n (q 1).c, .slice (q 2).a (q 2).n (q 2).c]), .int .i64 (moveE cl n)]) ∧ Has w W' bs ((p, moveF f cl n) :: (q, moveG f g cl n) :: ls) rs := by
  have hc : Calls Try.prog 17 #[(.agg #[.slice (u 0).a (u 0).n (u 0).c, .slice (u 1).a (u 1).n (u 1).c, .slice (u 2).a (u 2).n (u 2).c]), (.agg #[.slice (v 0).a (v 0).n (v 0).c, .slice (v 1).a (v 1).n (v 1).c, .slice (v 2).a (v 2).n (v 2).c]), .int .i64 cl, .int .i64 n] W (MoveOut W (moveF f cl n) (moveG f g cl n) (moveE cl n)) := by
    cases hcl : isCl cl
    · simp only [moveF, moveG, moveE, hcl, Bool.false_eq_true, if_false]
      exact rmove_bad u v cl n W hcl
    · by_cases h0 : n < 0
      · simp only [moveF, moveG, moveE, hcl, h0, if_true]
        exact rmove_neg u v cl n W hcl h0
      · simp only [moveF, moveG, moveE, hcl, h0, if_true, if_false]
        obtain ⟨k, rfl, hk⟩ := cl_of hcl
        obtain ⟨m, rfl⟩ := Int.eq_ofNat_of_zero_le (show 0 ≤ n by omega)
        simp only [Int.toNat_natCast]
        exact rmove_ok W.heap.size u v f g k m hk W (h.of hu) (h.of hv) (Nat.le_refl _) (fun j hj => Nat.le_trans (hn j hj) (by omega)) (fun j hj => Nat.le_trans (hn' j hj) (by omega)) (by omega)
  refine hc.mono ?_
  rintro e W' ⟨p, q, rfl, hp, hq, hb⟩
  exact ⟨p, q, rfl, ((h.next hb).list hq).list hp⟩
theorem rpart_tells (h : Has w W bs ls rs) (hu : (u, f) ∈ ls) (hn : ∀ j, j < 3 → (u j).n ≤ 200) (cl low high : Int) :
    Calls Try.prog 19 #[(.agg #[.slice (u 0).a (u 0).n (u 0).c, .slice (u 1).a (u 1).n (u 1).c, .slice (u 2).a (u 2).n (u 2).c]), .int .i64 cl, .int .i64 low, .int .i64 high] W fun e W' => ∃ p s, e = .returned (.tuple #[(.agg #[.slice (p 0).a (p 0).n (p 0).c, .slice (p 1).a (p 1).n (p 1).c, .slice (p 2).a (p 2).n (p 2).c]), .slice (s : Sl).a s.n s.c, .int .i64 (errCl cl)]) ∧ Has w W' bs ((p, partF f cl low high) :: ls) ((s, partS f cl low high) :: rs) := by
  have hc : Calls Try.prog 19 #[(.agg #[.slice (u 0).a (u 0).n (u 0).c, .slice (u 1).a (u 1).n (u 1).c, .slice (u 2).a (u 2).n (u 2).c]), .int .i64 cl, .int .i64 low, .int .i64 high] W (PartOut W (partF f cl low high) (partS f cl low high) (errCl cl)) := by
    cases hcl : isCl cl
    · simp only [partF, partS, errCl, hcl, Bool.false_eq_true, if_false]
      exact rpart_bad u cl low high W hcl
    · obtain ⟨k, rfl, hk⟩ := cl_of hcl
      simp only [partF, partS, errCl, hcl, if_true, Int.toNat_natCast]
      exact rpart_ok W.heap.size u f k hk low high W (h.of hu) (Nat.le_refl _) (fun j hj => Nat.le_trans (hn j hj) (by omega))
  refine hc.mono ?_
  rintro e W' ⟨p, s, rfl, hp, hs, hb⟩
  exact ⟨p, s, rfl, ((h.next hb).list hp).rowOf hs.1⟩
theorem has_forget {a b : Nat × (Nat → Sl)} {x y : (Nat → Sl) × (Nat → List Int)} (h : Has w W (a :: b :: bs) (x :: y :: ls) rs) : Has w W bs ls rs :=
  ⟨h.bel, fun p hp => h.box p (.tail _ (.tail _ hp)), fun p hp => h.lst p (.tail _ (.tail _ hp)), h.row⟩
theorem has_forget2 {a b c d : Nat × (Nat → Sl)} {x y z x' : (Nat → Sl) × (Nat → List Int)} (h : Has w W (a :: b :: c :: d :: bs) (x :: y :: z :: x' :: ls) rs) : Has w W bs ls rs := has_forget (has_forget h)
theorem sameTell_has (h : Has w W bs ls rs) (hu : (u, f) ∈ ls) (hv : (v, f) ∈ ls) (hn : cnt3 f ≤ 2000) : Calls Try.prog 13 #[(.agg #[.slice (u 0).a (u 0).n (u 0).c, .slice (u 1).a (u 1).n (u 1).c, .slice (u 2).a (u 2).n (u 2).c]), (.agg #[.slice (v 0).a (v 0).n (v 0).c, .slice (v 1).a (v 1).n (v 1).c, .slice (v 2).a (v 2).n (v 2).c])] W fun e W' => e = .returned (.bool true) ∧ Has w W' bs ls rs :=
  sameYes_has h hu hv (by omega) (by omega) (fun _ _ => rfl)
theorem intsTell_has (h : Has w W bs ls rs) {s t : Sl} {xs : List Int} (hs : (s, xs) ∈ rs) (ht : (t, xs) ∈ rs) (hn : xs.length ≤ 2000) : Calls Try.prog 20 #[.slice s.a s.n s.c, .slice t.a t.n t.c] W fun e W' => e = .returned (.bool true) ∧ Has w W' bs ls rs := by
  have r1 := h.rw_ hs
  have r2 := h.rw_ ht
  have := ints_has h (c := s.c) (c' := t.c) r1 r2 (by have := r1.1; omega) (by have := r2.1; omega)
  rwa [show decide (xs = xs) = true by simp] at this
theorem noLists_cnt : cnt3 noLists ≤ 2000 := by decide
theorem pushF_cnt {cl : Int} {ys : List Int} (hf : cnt3 f ≤ 600) (hy : ys.length ≤ 50) : cnt3 (pushF f cl ys) ≤ 2000 := by
  cases hcl : isCl cl
  · simp only [pushF, hcl, Bool.false_eq_true, if_false]; exact noLists_cnt
  · obtain ⟨k, rfl, hk⟩ := cl_of hcl
    simp only [pushF, hcl, if_true, Int.toNat_natCast]
    have := cnt_upd f k hk (f k ++ ys)
    have := cnt_ge f k hk
    simp only [List.length_append] at *
    omega
theorem popF_cnt {cl : Int} (hf : cnt3 f ≤ 600) : cnt3 (popF f cl) ≤ 2000 := by
  cases hcl : isCl cl
  · simp only [popF, hcl, Bool.false_eq_true, if_false]; exact noLists_cnt
  · obtain ⟨k, rfl, hk⟩ := cl_of hcl
    simp only [popF, hcl, if_true, Int.toNat_natCast]
    split
    · exact noLists_cnt
    · have := cnt_upd f k hk ((f k).take ((f k).length - 1))
      simp only [List.length_take] at *
      omega
theorem moveF_cnt {cl n : Int} (hf : cnt3 f ≤ 600) : cnt3 (moveF f cl n) ≤ 2000 := by
  cases hcl : isCl cl
  · simp only [moveF, hcl, Bool.false_eq_true, if_false]; exact noLists_cnt
  · obtain ⟨k, rfl, hk⟩ := cl_of hcl
    simp only [moveF, hcl, if_true, Int.toNat_natCast]
    split
    · exact noLists_cnt
    · have := cnt_upd f k hk ((f k).take ((f k).length - n.toNat))
      simp only [List.length_take] at *
      omega
theorem moveG_cnt {cl n : Int} (hf : cnt3 f ≤ 600) (hg : cnt3 g ≤ 600) : cnt3 (moveG f g cl n) ≤ 2000 := by
  cases hcl : isCl cl
  · simp only [moveG, hcl, Bool.false_eq_true, if_false]; exact noLists_cnt
  · obtain ⟨k, rfl, hk⟩ := cl_of hcl
    simp only [moveG, hcl, if_true, Int.toNat_natCast]
    split
    · exact noLists_cnt
    · have := cnt_upd g k hk (g k ++ ((f k).drop ((f k).length - n.toNat)).reverse)
      have := cnt_ge f k hk
      have := cnt_ge g k hk
      simp only [List.length_append, List.length_reverse, List.length_drop] at *
      omega
theorem partF_cnt {cl low high : Int} (hf : cnt3 f ≤ 600) : cnt3 (partF f cl low high) ≤ 2000 := by
  cases hcl : isCl cl
  · simp only [partF, hcl, Bool.false_eq_true, if_false]; exact noLists_cnt
  · obtain ⟨k, rfl, hk⟩ := cl_of hcl
    simp only [partF, hcl, if_true, Int.toNat_natCast]
    have := cnt_upd f k hk (outOf low high (f k))
    have : (outOf low high (f k)).length ≤ (f k).length := List.length_filter_le _ _
    omega
theorem partS_cnt {cl low high : Int} (hf : cnt3 f ≤ 600) : (partS f cl low high).length ≤ 2000 := by
  cases hcl : isCl cl
  · simp only [partS, hcl, Bool.false_eq_true, if_false]; simp
  · obtain ⟨k, rfl, hk⟩ := cl_of hcl
    simp only [partS, hcl, if_true, Int.toNat_natCast]
    have := cnt_ge f k hk
    have : (inOf low high (f k)).length ≤ (f k).length := List.length_filter_le _ _
    omega
theorem few_cnt (h : L3 W W.heap.size u f) (hn : ∀ j, j < 3 → (u j).n ≤ 200) : cnt3 f ≤ 600 := by
  have := cnt_bulk h
  have := hn 0 (by decide)
  have := hn 1 (by decide)
  have := hn 2 (by decide)
  omega
end
end Go.Proofs.Ytegggfghocicaaa
