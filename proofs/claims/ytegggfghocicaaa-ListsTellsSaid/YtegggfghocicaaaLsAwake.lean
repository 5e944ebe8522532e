/-
  The chapter's example, as every statement of the stage asks it first.
-/
import Derived.Test.YtegggfghocicaaaLsMove
import Derived.Test.YtegggfghocicaaaLsInts
namespace Go.Proofs.Ytegggfghocicaaa
open Go.RowKit

/-- The example's lists. -/
def exU (b : Nat) : Nat → Sl
  | 0 => ⟨some ⟨b, 0, none⟩, 3, 3⟩
  | _ => ⟨none, 0, 0⟩
def exF : Nat → List Int
  | 0 => [16, 18, 20]
  | _ => []
theorem ex_l3 (w : World) : L3 (w.alloc (.cells #[.int .i64 16, .int .i64 18, .int .i64 20] 3)) (w.heap.size + 1) (exU w.heap.size) exF := by
  intro j hj
  match j, hj with
  | 0, _ =>
    refine ⟨⟨rfl, fun _ => ⟨w.heap.size, 0, rfl, by omega, fun i hi => ?_⟩⟩, by simp [exU], by simp [exU, maxLen]⟩
    match i, hi with
    | 0, _ => simp [go_sem, exF]
    | 1, _ => simp [go_sem, exF]
    | 2, _ => simp [go_sem, exF]
  | 1, _ => exact ⟨Row.none_ _ _, Nat.le_refl _, by simp [exU, maxLen]⟩
  | 2, _ => exact ⟨Row.none_ _ _, Nat.le_refl _, by simp [exU, maxLen]⟩
theorem row_lit2 (w : World) (a b : Int) : Row (w.alloc (.cells #[.int .i64 a, .int .i64 b] 3)) (w.heap.size + 1) (some ⟨w.heap.size, 0, none⟩) 2 [a, b] :=
  ⟨rfl, fun _ => ⟨w.heap.size, 0, rfl, by omega, fun i hi => by
    match i, hi with
    | 0, _ => simp [go_sem]
    | 1, _ => simp [go_sem]⟩⟩
/-- One value of lists, in a slice of such. -/
theorem one_lrow {w : World} {B : Nat} {u : Nat → Sl} {f : Nat → List Int} (h : L3 w B u f) (hB : B ≤ w.heap.size) (t : TypeId) : LRow (w.alloc (.cells #[.slice (u 0).a (u 0).n (u 0).c, .slice (u 1).a (u 1).n (u 1).c, .slice (u 2).a (u 2).n (u 2).c] t)) (w.heap.size + 1) (some ⟨w.heap.size, 0, none⟩) 1 (fun _ => u) (fun _ => f) := by
  have X := Box3.new w u t
  refine fun _ => ⟨w.heap.size, 0, rfl, by omega, fun k hk => ?_⟩
  obtain rfl : k = 0 := by omega
  exact ⟨fun j hj => by simpa using X.cell j hj, (h.below ((Below.refl _ _).alloc hB _)).more (by omega)⟩

set_option maxHeartbeats 1000000 in
theorem awake_any (w : World) : Calls Try.prog 9 #[] w (Tells w true) := by
  have E0 := Lib.hid (ex_l3 w)
  go_enter Try.func9, Try.ntmps9
  go_wp2_with fail
  have B0 := two_below w (.cells #[.int .i64 16, .int .i64 18, .int .i64 20] 3) (.cells #[.slice (exU w.heap.size 0).a (exU w.heap.size 0).n (exU w.heap.size 0).c, .slice (exU w.heap.size 1).a (exU w.heap.size 1).n (exU w.heap.size 1).c, .slice (exU w.heap.size 2).a (exU w.heap.size 2).n (exU w.heap.size 2).c] 24)
  have E1 := E0.out.below ((Below.refl _ _).alloc (Nat.le_of_eq (by simp)) (.cells #[.slice (exU w.heap.size 0).a (exU w.heap.size 0).n (exU w.heap.size 0).c, .slice (exU w.heap.size 1).a (exU w.heap.size 1).n (exU w.heap.size 1).c, .slice (exU w.heap.size 2).a (exU w.heap.size 2).n (exU w.heap.size 2).c] 24))
  have X0 := Box3.new (w.alloc (.cells #[.int .i64 16, .int .i64 18, .int .i64 20] 3)) (exU w.heap.size) 24
  have S0 : ((w.alloc (.cells #[.int .i64 16, .int .i64 18, .int .i64 20] 3)).alloc (.cells #[.slice (exU w.heap.size 0).a (exU w.heap.size 0).n (exU w.heap.size 0).c, .slice (exU w.heap.size 1).a (exU w.heap.size 1).n (exU w.heap.size 1).c, .slice (exU w.heap.size 2).a (exU w.heap.size 2).n (exU w.heap.size 2).c] 24)).heap.size = w.heap.size + 2 := by simp
  rw [World.size_alloc] at X0
  simp only [exU] at B0 E1 X0 S0
  generalize hE : (w.alloc (.cells #[.int .i64 16, .int .i64 18, .int .i64 20] 3)).alloc (.cells #[.slice (some ⟨w.heap.size, 0, none⟩) 3 3, .slice none 0 0, .slice none 0 0] 24) = wE at B0 E1 X0 S0 ⊢
  have HX := Lib.hid X0
  have HL := Lib.hid E1
  have HB := Lib.hid B0
  clear hE X0 E1 B0 E0
  refine (pop_ok0 (w.heap.size + 1) (exU w.heap.size) exF 2 wE HL.out (by omega) ?_ rfl).mono ?_
  · intro j hj
    match j, hj with
    | 0, _ => simp [exU]
    | 1, _ => simp [exU]
    | 2, _ => simp [exU]
  rintro e w2 ⟨u2, rfl, _, hb2⟩
  have X2 := HX.out.next hb2
  have L2 := HL.out.over hb2 (by omega)
  have HB2 := Lib.hid (HB.out.trans (hb2.mono (by omega)))
  have hl2 := HB2.out.size
  have c0 := X2.cell 0 (by decide)
  have c1 := X2.cell 1 (by decide)
  have c2 := X2.cell 2 (by decide)
  simp only [exU] at c0 c1 c2
  have HX2 := Lib.hid X2
  have HL2 := Lib.hid L2
  have e20 : (exF 0).getD 2 0 = 20 := rfl
  have hx2 := X2.lt
  rw [e20]
  clear X2 L2 hb2 HX HL HB e20
  go_wp2_with fail
  have b2 := (Below.refl w2.heap.size w2).alloc (Nat.le_refl _) (.cells #[.slice (u2 0).a (u2 0).n (u2 0).c, .slice (u2 1).a (u2 1).n (u2 1).c, .slice (u2 2).a (u2 2).n (u2 2).c] 24)
  refine (move_ok (w.heap.size + 1) (exU w.heap.size) noSl exF noLists 0 2 (by decide) _ (HL2.out.over b2 (by omega)) (L3.none_ _ _) (by simp; omega) ?_ ?_ (by decide)).mono ?_
  · intro j hj
    match j, hj with
    | 0, _ => simp [exU]
    | 1, _ => simp [exU]
    | 2, _ => simp [exU]
  · intro j hj
    simp [noSl]
  rintro e w3 ⟨p, q, rfl, hp, hq, hb3⟩
  have b3 := b2.trans (hb3.mono (by simp))
  have X3 := HX2.out.next b3
  have HL3 := Lib.hid (HL2.out.over b3 (by omega))
  have HB3 := Lib.hid (HB2.out.trans (b3.mono hl2))
  have hs3 : w2.heap.size < w3.heap.size := by have := hb3.size; simp at this; omega
  have P0 := Lib.hid (show Row w3 w3.heap.size (p 0).a (p 0).n [16] from (hp 0 (by decide)).1)
  have Q0 := Lib.hid (show Row w3 w3.heap.size (q 0).a (q 0).n [20, 18] from (hq 0 (by decide)).1)
  have hpn : (p 0).n ≤ 4000000 := by have := (hp.len 0 (by decide)).trans (show _ = 1 from rfl); omega
  have hqn : (q 0).n ≤ 4000000 := by have := (hq.len 0 (by decide)).trans (show _ = 2 from rfl); omega
  have HX3 := Lib.hid X3
  clear X3 hp hq hb3 b3 b2 HX2 HL2 c0 c1 c2 HB2
  go_wp2_with fail
  have XP := (Box3.new w3 p 24).alloc (.cells #[.slice (q 0).a (q 0).n (q 0).c, .slice (q 1).a (q 1).n (q 1).c, .slice (q 2).a (q 2).n (q 2).c] 24)
  have XQ := Box3.new (w3.alloc (.cells #[.slice (p 0).a (p 0).n (p 0).c, .slice (p 1).a (p 1).n (p 1).c, .slice (p 2).a (p 2).n (p 2).c] 24)) q 24
  have b4 := two_below w3 (.cells #[.slice (p 0).a (p 0).n (p 0).c, .slice (p 1).a (p 1).n (p 1).c, .slice (p 2).a (p 2).n (p 2).c] 24) (.cells #[.slice (q 0).a (q 0).n (q 0).c, .slice (q 1).a (q 1).n (q 1).c, .slice (q 2).a (q 2).n (q 2).c] 24)
  have s4 : ((w3.alloc (.cells #[.slice (p 0).a (p 0).n (p 0).c, .slice (p 1).a (p 1).n (p 1).c, .slice (p 2).a (p 2).n (p 2).c] 24)).alloc (.cells #[.slice (q 0).a (q 0).n (q 0).c, .slice (q 1).a (q 1).n (q 1).c, .slice (q 2).a (q 2).n (q 2).c] 24)).heap.size = w3.heap.size + 1 + 1 := by simp
  rw [World.size_alloc] at XQ
  generalize (w3.alloc (.cells #[.slice (p 0).a (p 0).n (p 0).c, .slice (p 1).a (p 1).n (p 1).c, .slice (p 2).a (p 2).n (p 2).c] 24)).alloc (.cells #[.slice (q 0).a (q 0).n (q 0).c, .slice (q 1).a (q 1).n (q 1).c, .slice (q 2).a (q 2).n (q 2).c] 24) = W3 at XP XQ b4 s4 ⊢
  rw [← s4]
  refine (ints_tell w3.heap.size (W3.heap.size + 1) _ _ _ _ _ _ [16] [16] _ hpn (by decide) ((P0.out.below b4).below ((Below.refl _ _).alloc (by omega) _)) (row_lit1 W3 16)).mono ?_
  rintro e w5 ⟨rfl, hb5⟩
  have b5 := ((Below.refl W3.heap.size W3).alloc (Nat.le_refl _) (.cells #[.int .i64 16] 3)).trans (hb5.mono (by simp))
  have XQ5 := XQ.next b5
  have X5 := (HX3.out.below b4 (by have := HX3.out.lt; omega)).next b5
  have b35 := b4.trans (b5.mono (by omega))
  have HL5 := Lib.hid (HL3.out.over b35 (by have := HX3.out.lt; omega))
  have hl3 := HB3.out.size
  have HB5 := Lib.hid (HB3.out.trans (b35.mono (by omega)))
  have Q5 := Lib.hid (Q0.out.below b35)
  have hl5 : w3.heap.size + 1 < w5.heap.size := by have := hb5.size; simp at this; omega
  have q0 := XQ5.cell 0 (by decide)
  have HX5 := Lib.hid X5
  have hx5 := X5.lt
  clear XP XQ b4 s4 hb5 b5 XQ5 X5 b35 HL3 HB3 Q0 P0 HX3
  rw [show decide (([16] : List Int) = [16]) = true from rfl]
  go_wp2_with fail
  refine (ints_tell w3.heap.size (w5.heap.size + 1) _ _ _ _ _ _ [20, 18] [20, 18] _ hqn (by decide) (Q5.out.below ((Below.refl _ _).alloc (by omega) _)) (row_lit2 w5 20 18)).mono ?_
  rintro e w6 ⟨rfl, hb6⟩
  have b6 := ((Below.refl w5.heap.size w5).alloc (Nat.le_refl _) (.cells #[.int .i64 20, .int .i64 18] 3)).trans (hb6.mono (by simp))
  have X6 := HX5.out.next b6
  have HL6 := Lib.hid (HL5.out.over b6 (by omega))
  have HB6 := Lib.hid (HB5.out.trans (b6.mono (by omega)))
  have hl6 : w3.heap.size + 1 < w6.heap.size := by have := hb6.size; simp at this; omega
  have c0 := X6.cell 0 (by decide)
  have c1 := X6.cell 1 (by decide)
  have c2 := X6.cell 2 (by decide)
  simp only [exU] at c0 c1 c2
  have hx6 := X6.lt
  clear hb6 b6 X6 HX5 HL5 HB5 Q5 q0
  rw [show decide (([20, 18] : List Int) = [20, 18]) = true from rfl]
  go_wp2_with fail
  have R := one_lrow HL6.out (by omega) 24
  have Hd : decide (allOf (fun _ => exF) 1).Nodup = true := by decide
  have HA := apart_any (w6.heap.size + 1) (some ⟨w6.heap.size, 0, none⟩) 1 1 (fun _ => exU w.heap.size) (fun _ => exF) (w6.alloc (.cells #[.slice (exU w.heap.size 0).a (exU w.heap.size 0).n (exU w.heap.size 0).c, .slice (exU w.heap.size 1).a (exU w.heap.size 1).n (exU w.heap.size 1).c, .slice (exU w.heap.size 2).a (exU w.heap.size 2).n (exU w.heap.size 2).c] 24)) R (by simp) (by decide) (by decide)
  rw [Hd] at HA
  refine HA.mono ?_
  rintro e w7 ⟨rfl, hb7⟩
  have HB7 := Lib.hid (HB6.out.trans (((Below.refl w6.heap.size w6).alloc (Nat.le_refl _) (.cells #[.slice (exU w.heap.size 0).a (exU w.heap.size 0).n (exU w.heap.size 0).c, .slice (exU w.heap.size 1).a (exU w.heap.size 1).n (exU w.heap.size 1).c, .slice (exU w.heap.size 2).a (exU w.heap.size 2).n (exU w.heap.size 2).c] 24)).trans (hb7.mono (by simp)) |>.mono (by omega)))
  clear hb7 HA Hd R HB6 HL6 c0 c1 c2
  go_wp2
  go_ret
  exact ⟨rfl, HB7.out⟩
end Go.Proofs.Ytegggfghocicaaa
