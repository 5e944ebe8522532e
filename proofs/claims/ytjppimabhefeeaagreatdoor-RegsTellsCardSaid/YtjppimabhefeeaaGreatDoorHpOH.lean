/-
  Merged texts: HpSmall, LsRPush.
-/
import Derived.Test.YtjppimabhefeeaaGreatDoorHpOF
section
namespace Go.Proofs.YtjppimabhefeeaaGreatDoor
open Go.RowKit
set_option maxRecDepth 100000

theorem rbool {a b : Bool} (h : a = b) : Ending.returned (.bool a) = .returned (.bool b) := by rw [h]
/-- Is a page for objects with just so many fields? -/
def fillsB (n : Int) (p : Int × Int) : Bool := if p.1 = 2 then (Cl.runErr n == 0) && (Cl.runOf n == p.2) else (Cl.classErr n == 0) && (Cl.classOf n == p.2)
theorem fills_any (n : Int) (p : Int × Int) (w : World) (hz : Cl.Sz w) : Calls Tryz.prog 46 #[.int .i64 n, .agg #[.int .i64 p.1, .int .i64 p.2]] w fun e w' => e = .returned (.bool (fillsB n p)) ∧ Below w.heap.size w w' := by
  have HZ := Lib.hid (hz.alloc (.cells #[.int .i64 p.1, .int .i64 p.2] 75))
  clear hz
  by_cases hk : p.1 = 2
  · have k1 : (p.1 == 2) = true := by simp [hk]
    cases hr : (Cl.runErr n == 0)
    · have R : fillsB n p = false := by simp [fillsB, hk, hr]
      rw [R]
      clear R hk
      go_enter Tryz.func46, Tryz.ntmps46
      go_wp2_with fail
      refine (Cl.of_of n _ HZ.out).mono ?_
      rintro r w2 ⟨rfl, rfl⟩
      go_wp2_with fail
      refine (Cl.run_of n _ HZ.out).mono ?_
      rintro r w2 ⟨rfl, rfl⟩
      go_wp2
      go_ret
      exact ⟨rfl, (Below.refl _ _).alloc (Nat.le_refl _) _⟩
    · have R : fillsB n p = (Cl.runOf n == p.2) := by simp [fillsB, hk, hr]
      rw [R]
      clear R hk
      go_enter Tryz.func46, Tryz.ntmps46
      go_wp2_with fail
      refine (Cl.of_of n _ HZ.out).mono ?_
      rintro r w2 ⟨rfl, rfl⟩
      go_wp2_with fail
      refine (Cl.run_of n _ HZ.out).mono ?_
      rintro r w2 ⟨rfl, rfl⟩
      go_wp2
      go_ret
      exact ⟨rfl, (Below.refl _ _).alloc (Nat.le_refl _) _⟩
  · have k1 : (p.1 == 2) = false := by simp [hk]
    cases hr : (Cl.classErr n == 0)
    · have R : fillsB n p = false := by simp [fillsB, hk, hr]
      rw [R]
      clear R hk
      go_enter Tryz.func46, Tryz.ntmps46
      go_wp2_with fail
      refine (Cl.of_of n _ HZ.out).mono ?_
      rintro r w2 ⟨rfl, rfl⟩
      go_wp2
      go_ret
      exact ⟨rfl, (Below.refl _ _).alloc (Nat.le_refl _) _⟩
    · have R : fillsB n p = (Cl.classOf n == p.2) := by simp [fillsB, hk, hr]
      rw [R]
      clear R hk
      go_enter Tryz.func46, Tryz.ntmps46
      go_wp2_with fail
      refine (Cl.of_of n _ HZ.out).mono ?_
      rintro r w2 ⟨rfl, rfl⟩
      go_wp2
      go_ret
      exact ⟨rfl, (Below.refl _ _).alloc (Nat.le_refl _) _⟩
theorem words_may (A : Option Addr) (n c : Nat) (w : World) (hn : n ≤ 9223372036854775807) : Calls Tryz.prog 62 #[.slice A n c] w fun e w' => e = .returned (.bool (wordsB n)) ∧ w = w' := by
  cases h : wordsB n
  · exact Ar.may_no A n c w hn h
  · exact Ar.may_yes A n c w h
theorem sized_any (s : Hs) (d : Hd_) (w : World) (hp : Hp w w.heap.size s d) (hwn : s.w.n ≤ 4000) (hpn : s.p.n ≤ 1000) (hcn : s.c.n ≤ 100000) :
    Calls Tryz.prog 43 #[(.agg #[.slice s.w.a s.w.n s.w.c, .slice s.p.a s.p.n s.p.c, .slice (s.u 0).a (s.u 0).n (s.u 0).c, .slice (s.u 1).a (s.u 1).n (s.u 1).c, .slice (s.u 2).a (s.u 2).n (s.u 2).c, .slice s.c.a s.c.n s.c.c])] w fun e w' => e = .returned (.bool (firstB s d)) ∧ Below w.heap.size w w' := by
  have HP := Lib.hid hp
  have key : ∀ (b1 b2 b3 b4 : Bool), wordsB s.w.n = b1 → Cl.mayB d.f s.p.n = b2 → ((s.w.n : Int) == 16 * (s.p.n : Int)) = b3 → ((s.w.n : Int) == 8 * (s.c.n : Int)) = b4 → 
      Calls Tryz.prog 43 #[(.agg #[.slice s.w.a s.w.n s.w.c, .slice s.p.a s.p.n s.p.c, .slice (s.u 0).a (s.u 0).n (s.u 0).c, .slice (s.u 1).a (s.u 1).n (s.u 1).c, .slice (s.u 2).a (s.u 2).n (s.u 2).c, .slice s.c.a s.c.n s.c.c])] w fun e w' => e = .returned (.bool (b1 && (b2 && (b3 && b4)))) ∧ Below w.heap.size w w' := by
    intro b1 b2 b3 b4 e1 e2 e3 e4
    have E1 := Lib.hid e1
    have E2 := Lib.hid e2
    clear e1 e2 hp
    cases b1
    · rw [show (false && (b2 && (b3 && b4))) = false from rfl]
      go_enter Tryz.func43, Tryz.ntmps43
      go_wp2_with fail
      refine (words_may _ _ _ _ (by omega)).mono ?_
      rw [E1.out]
      rintro r w1 ⟨rfl, rfl⟩
      go_wp2
      go_ret
      exact ⟨rfl, (Below.refl _ _).alloc (Nat.le_refl _) _⟩
    · cases b2
      · rw [show (true && (false && (b3 && b4))) = false from rfl]
        go_enter Tryz.func43, Tryz.ntmps43
        go_wp2_with fail
        refine (words_may _ _ _ _ (by omega)).mono ?_
        rw [E1.out]
        rintro r w1 ⟨rfl, rfl⟩
        go_wp2_with fail
        have hb0 := (Below.refl w.heap.size w).alloc (Nat.le_refl _) (.cells #[.slice s.w.a s.w.n s.w.c, .slice s.p.a s.p.n s.p.c, .slice (s.u 0).a (s.u 0).n (s.u 0).c, .slice (s.u 1).a (s.u 1).n (s.u 1).c, .slice (s.u 2).a (s.u 2).n (s.u 2).c, .slice s.c.a s.c.n s.c.c] 28)
        refine (Cl.may_any w.heap.size s.p.a s.p.n s.p.c d.f _ hpn (HP.out.pages.below hb0) (by simp)).mono ?_
        rw [E2.out]
        rintro r w1 ⟨rfl, hb1⟩
        have BW := Lib.hid (hb0.trans (hb1.mono (by simp)))
        clear hb1 hb0
        go_wp2
        go_ret
        exact ⟨rfl, BW.out⟩
      · rw [show (true && (true && (b3 && b4))) = (b3 && b4) from rfl]
        cases b3
        · rw [show (false && b4) = false from rfl]
          go_enter Tryz.func43, Tryz.ntmps43
          go_wp2_with fail
          refine (words_may _ _ _ _ (by omega)).mono ?_
          rw [E1.out]
          rintro r w1 ⟨rfl, rfl⟩
          go_wp2_with fail
          have hb0 := (Below.refl w.heap.size w).alloc (Nat.le_refl _) (.cells #[.slice s.w.a s.w.n s.w.c, .slice s.p.a s.p.n s.p.c, .slice (s.u 0).a (s.u 0).n (s.u 0).c, .slice (s.u 1).a (s.u 1).n (s.u 1).c, .slice (s.u 2).a (s.u 2).n (s.u 2).c, .slice s.c.a s.c.n s.c.c] 28)
          refine (Cl.may_any w.heap.size s.p.a s.p.n s.p.c d.f _ hpn (HP.out.pages.below hb0) (by simp)).mono ?_
          rw [E2.out]
          rintro r w1 ⟨rfl, hb1⟩
          have HB1 := (HBox.new w s 28).next hb1
          have q0 := HB1.c0
          have q1 := HB1.c1
          have q5 := HB1.c5
          have ql := HB1.lt
          have BW := Lib.hid (hb0.trans (hb1.mono (by simp)))
          clear hb1 hb0 HB1
          go_wp2
          go_ret
          exact ⟨rfl, BW.out⟩
        · rw [show (true && b4) = b4 from rfl]
          go_enter Tryz.func43, Tryz.ntmps43
          go_wp2_with fail
          refine (words_may _ _ _ _ (by omega)).mono ?_
          rw [E1.out]
          rintro r w1 ⟨rfl, rfl⟩
          go_wp2_with fail
          have hb0 := (Below.refl w.heap.size w).alloc (Nat.le_refl _) (.cells #[.slice s.w.a s.w.n s.w.c, .slice s.p.a s.p.n s.p.c, .slice (s.u 0).a (s.u 0).n (s.u 0).c, .slice (s.u 1).a (s.u 1).n (s.u 1).c, .slice (s.u 2).a (s.u 2).n (s.u 2).c, .slice s.c.a s.c.n s.c.c] 28)
          refine (Cl.may_any w.heap.size s.p.a s.p.n s.p.c d.f _ hpn (HP.out.pages.below hb0) (by simp)).mono ?_
          rw [E2.out]
          rintro r w1 ⟨rfl, hb1⟩
          have HB1 := (HBox.new w s 28).next hb1
          have q0 := HB1.c0
          have q1 := HB1.c1
          have q5 := HB1.c5
          have ql := HB1.lt
          have BW := Lib.hid (hb0.trans (hb1.mono (by simp)))
          clear hb1 hb0 HB1
          go_wp2
          go_ret
          exact ⟨rfl, BW.out⟩
  have h := key _ _ _ _ rfl rfl rfl rfl
  have e : (wordsB s.w.n && (Cl.mayB d.f s.p.n && (((s.w.n : Int) == 16 * (s.p.n : Int)) && ((s.w.n : Int) == 8 * (s.c.n : Int))))) = firstB s d := by
    unfold firstB
    rw [Bool.eq_iff_iff]
    simp only [Bool.and_eq_true, beq_iff_eq, decide_eq_true_eq]
    constructor
    · rintro ⟨h1, h2, h3, h4⟩
      exact ⟨h1, h2, by omega, by omega⟩
    · rintro ⟨h1, h2, h3, h4⟩
      exact ⟨h1, h2, by omega, by omega⟩
  rwa [e] at h
/-- Of what rises: is it among them? -/
theorem has_any (B : Nat) (A : Option Addr) (n c : Nat) (xs : List Int) (x : Int) (w : World) (hn : n ≤ 100000000) (hr : Row w B A n xs) (hs : xs.Pairwise (· ≤ ·)) :
    Calls Tryz.prog 71 #[.slice A n c, .int .i64 x] w fun e w' => e = .returned (.bool (decide (x ∈ xs))) ∧ ∃ q, w' = w.drewN q := by
  by_cases h0 : n = 0
  · subst h0
    obtain rfl := hr.zero
    clear hr hs hn
    go_enter Tryz.func71, Tryz.ntmps71
    go_wp2_with fail
    refine (Tryz.slices_BinarySearch_int_empty A c x _).mono ?_
    rintro e w1 ⟨rfl, rfl⟩
    go_wp2
    go_ret
    exact ⟨rbool (by simp), 0, rfl⟩
  · obtain ⟨b, off, rfl, _, hc⟩ := hr.2 (by omega)
    have hl := hr.1
    have HB := Lib.hid (fun W (hW : W = w) => by
      have := Tryz.slices_BinarySearch_int b off n c xs x W (by omega) (by omega) (fun j hj => by rw [hW]; exact hc j (by omega)) (by rw [List.take_of_length_le (by omega)]; exact hs)
      rw [List.take_of_length_le (by omega), List.contains_eq_mem] at this
      exact this)
    clear hc hr hs h0 hl
    go_enter Tryz.func71, Tryz.ntmps71
    go_wp2_with fail
    refine (HB.out _ rfl).mono ?_
    rintro e w1 ⟨rfl, q, rfl⟩
    go_wp2
    go_ret
    exact ⟨rfl, q, rfl⟩
end Go.Proofs.YtjppimabhefeeaaGreatDoor
end
section
namespace Go.Proofs.YtjppimabhefeeaaGreatDoor.Ls
open Go.Proofs.YtjppimabhefeeaaGreatDoor
set_option maxRecDepth 100000
open Go.RowKit

/-- Lists of one's own and their box, beside other things. -/
structure Lst (base : Nat) (W wr : World) (R : Nat → Option Thing) (d : Nat) (V : Nat → Sl) (G : Nat → List Int) : Prop where
  res : Res base W wr R
  own : R 0 = some (tOwn base V G)
  box : R 1 = some (tBox d V)
  big : base ≤ wr.heap.size
section
variable {base d k : Nat} {W wr w2 : World} {R : Nat → Option Thing} {V : Nat → Sl} {G : Nat → List Int} {s : Sl} {xs : List Int} {o : Obj}
theorem Lst.drew (h : Lst base W wr R d V G) : Lst base W wr.drew R d V G := ⟨h.res.drewN 1, h.own, h.box, h.big⟩
theorem Lst.boxed (h : Lst base W wr R d V G) : Box3 wr d V := h.res.box h.box
theorem Lst.owns (h : Lst base W wr R d V G) : Own3 wr base V G := h.res.own h.own
theorem Lst.row (h : Lst base W wr R d V G) (o : Obj) (hk : k < 3) : (wr.alloc o).ownsRow base 3 1 (.slice (V k).a (V k).n (V k).c) (V k).n ((G k).map (Value.int .i64)) := (h.owns.alloc o).own k hk
theorem Lst.len (h : Lst base W wr R d V G) (hk : k < 3) : (V k).n = (G k).length := h.owns.l3.len k hk
theorem Lst.arg (h : Lst base W wr R d V G) {B n : Nat} {A : Option Addr} {ys : List Int} (hr : Row W B A n ys) (hB : B ≤ base) : Row wr B A n ys := hr.over h.res.bel hB
theorem Lst.mid (h : Lst base W wr R d V G) (hk : k < 3) (hc : Catted (wr.alloc o) base (.slice (V k).a (V k).n (V k).c) s xs w2) : Box3 w2 d V ∧ wr.heap.size + 1 ≤ w2.heap.size :=
  ⟨(h.res.catted (b0 := base) h.big h.own hk hc hc.own).box (r := 1) (by rw [upd_other _ _ (by decide)]; exact h.box), by have := hc.grown.size; simpa using this⟩
theorem Lst.cat (h : Lst base W wr R d V G) (hk : k < 3) (hc : Catted (wr.alloc o) base (.slice (V k).a (V k).n (V k).c) s xs w2) :
    ∃ R', Lst base W (w2.setCell ⟨d, k, none⟩ (.slice s.a s.n s.c)) R' d (upd V k s) (upd G k xs) ∧ ∀ r, 2 ≤ r → R' r = R r := by
  have hw : base ≤ w2.heap.size := by have := (h.mid hk hc).2; have := h.big; omega
  have R1 := h.res.catted (b0 := base) h.big h.own hk hc hc.own
  have R2 := R1.set hw (r := 1) (d := d) (k := k) (z := V) (by rw [upd_other _ _ (by decide)]; exact h.box) hk s
  refine ⟨_, ⟨R2, ?_, upd_same _ _ _, by simpa [World.setCell] using hw⟩, fun r hr => ?_⟩
  · rw [upd_other _ _ (by decide), upd_same]
  · rw [upd_other _ _ (by omega), upd_other _ _ (by omega)]
/-- The box is stored to the result's box. -/
theorem Lst.done (h : Lst base W wr R d V G) {r : Nat} (hr : 2 ≤ r) {b : Nat} {z : Nat → Sl} (hb : R r = some (tBox b z)) : L3 (put3 wr b V) (put3 wr b V).heap.size V G ∧ Below base W (put3 wr b V) := by
  have R1 := h.res.put h.big hb V
  exact ⟨(R1.own (r := 0) (by rw [upd_other _ _ (by omega)]; exact h.own)).l3, R1.bel⟩
end
end Go.Proofs.YtjppimabhefeeaaGreatDoor.Ls
end
