/-
  Package cells' On, All, Start, Room and Next: what they return, for every slice of pages.
-/
import Derived.Test.YtlmaeppckaempaaDoorClFind
namespace Go.Proofs.YtlmaeppckaempaaDoor
open Go.RowKit Go.Shelf

theorem pageL_bounds {k num : Nat} {room : Int} (hk : k ≤ 1000) (hn : num ≤ 8) (h0 : 0 ≤ room) (h1 : room ≤ 64) : Bounded (pageL k num room) := by
  intro c hc
  obtain ⟨j, hj, rfl⟩ := List.mem_map.1 hc
  have hj := List.mem_range.1 hj
  have a1 : (0 : Int) ≤ j * room := Int.mul_nonneg (by omega) h0
  have a2 : (j : Int) * room ≤ 8 * 64 := Int.mul_le_mul (by omega) h1 h0 (by omega)
  simp only
  omega
theorem cellsL_bounds {f : Nat → Int × Int} {n : Nat} (hp : ∀ k, k < n → pmB (f k) = true) (hn : n ≤ 1000) : Bounded (cellsL f n) := by
  induction n with
  | zero => intro c hc; simp [cellsL] at hc
  | succ n ih =>
    intro c hc
    rw [cellsL_succ] at hc
    rcases List.mem_append.1 hc with hc | hc
    · exact ih (fun k hk => hp k (by omega)) (by omega) c hc
    · have := num_room (hp n (by omega))
      exact pageL_bounds (by omega) this.1 this.2.1 this.2.2 c hc
theorem may_pm {f : Nat → Int × Int} {n k : Nat} (h : mayB f n = true) (hk : k < n) : pmB (f k) = true := ((okB_iff f k).1 (((mayB_iff f n).1 h).2.2.1 k hk)).1
theorem allL_bounds (f : Nat → Int × Int) (n : Nat) : Bounded (allL f n) := by
  unfold allL
  split
  · next h => exact cellsL_bounds (fun k hk => may_pm h hk) (by have := (mayB_iff f n).1 h; omega)
  · intro c hc; simp at hc
theorem cellsL_length {f : Nat → Int × Int} : ∀ {n : Nat}, (∀ k, k < n → pmB (f k) = true) → (cellsL f n).length ≤ 8 * n
  | 0, _ => by simp [cellsL]
  | n + 1, hp => by
    have := cellsL_length (f := f) (n := n) (fun k hk => hp k (by omega))
    have := (num_room (hp n (by omega))).1
    rw [cellsL_succ, List.length_append, pageL_length]
    omega
theorem allL_length (f : Nat → Int × Int) (n : Nat) : (allL f n).length ≤ 512 := by
  unfold allL
  split
  · next h =>
    have := cellsL_length (f := f) (n := n) (fun k hk => may_pm h hk)
    have := (mayB_iff f n).1 h
    omega
  · simp

/-- Which cell is looked for. -/
def pIn (a : Int) (c : Int × Int) : Bool := decide (c.1 ≤ a) && decide (a < c.1 + c.2)
def pAt (a : Int) (c : Int × Int) : Bool := c.1 == a
def pUp (a : Int) (c : Int × Int) : Bool := decide (a < c.1)

theorem tells_in (a : Int) : Tells 30 a (pIn a) := by
  intro q r w h0 h1 h2 h3
  by_cases e0 : q ≤ a
  · by_cases e1 : a < q + r
    · have d0 : decide (q ≤ a) = true := by simpa using e0
      have d1 : decide (a < q + r) = true := by simpa using e1
      have HE := Lib.hid (show pIn a (q, r) = true by simp [pIn, e0, e1])
      clear e0 e1
      go_enter Tryd.func30, Tryd.ntmps30
      go_wp2
      go_ret
      exact ⟨rint HE.out.symm, (Below.refl _ _).alloc (Nat.le_refl _) _⟩
    · have d0 : decide (q ≤ a) = true := by simpa using e0
      have d1 : decide (a < q + r) = false := by simpa using e1
      have HE := Lib.hid (show pIn a (q, r) = false by simp [pIn]; omega)
      clear e0 e1
      go_enter Tryd.func30, Tryd.ntmps30
      go_wp2
      go_ret
      exact ⟨rint HE.out.symm, (Below.refl _ _).alloc (Nat.le_refl _) _⟩
  · have d0 : decide (q ≤ a) = false := by simpa using e0
    have HE := Lib.hid (show pIn a (q, r) = false by simp [pIn]; omega)
    clear e0
    go_enter Tryd.func30, Tryd.ntmps30
    go_wp2
    go_ret
    exact ⟨rint HE.out.symm, (Below.refl _ _).alloc (Nat.le_refl _) _⟩
theorem tells_at (a : Int) : Tells 32 a (pAt a) := by
  intro q r w _ _ _ _
  have HE := Lib.hid (show pAt a (q, r) = (q == a) from rfl)
  go_enter Tryd.func32, Tryd.ntmps32
  go_wp2
  go_ret
  exact ⟨rint HE.out.symm, (Below.refl _ _).alloc (Nat.le_refl _) _⟩
theorem tells_up (a : Int) : Tells 31 a (pUp a) := by
  intro q r w _ _ _ _
  have HE := Lib.hid (show pUp a (q, r) = decide (a < q) from rfl)
  go_enter Tryd.func31, Tryd.ntmps31
  go_wp2
  go_ret
  exact ⟨rint HE.out.symm, (Below.refl _ _).alloc (Nat.le_refl _) _⟩

section
variable (B : Nat) (A : Option Addr) (n c : Nat) (f : Nat → Int × Int) (a : Int) (w : World)
theorem start_any (hn : n ≤ 1000) (hz : Sz w) (hr : PRow w B A n f) (hB : B ≤ w.heap.size) :
    Calls Tryd.prog 16 #[.slice A n c, .int .i64 a] w fun e w' => e = .returned (.tuple #[.int .i64 (foundV (allL f n) (pIn a)).1, .bool (foundS (allL f n) (pIn a))]) ∧ Below w.heap.size w w' := by
  have HZ := Lib.hid hz
  have HR := Lib.hid hr
  clear hz hr
  go_enter Tryd.func16, Tryd.ntmps16
  go_wp2_with fail
  refine (find_any B A n c f _ a (pIn a) w hn HZ.out HR.out hB (allL_bounds f n) (enters_of Tryd.func30 (by kernel_rfl) rfl) (tells_in a)).mono ?_
  rintro e w1 ⟨rfl, hb1⟩
  have HB := Lib.hid hb1
  have hz1 := hb1.size
  clear hb1
  go_wp2
  go_ret2
  exact ⟨rfl, HB.out.alloc hz1 _⟩
theorem room_any (hn : n ≤ 1000) (hz : Sz w) (hr : PRow w B A n f) (hB : B ≤ w.heap.size) :
    Calls Tryd.prog 20 #[.slice A n c, .int .i64 a] w fun e w' => e = .returned (.int .i64 (foundV (allL f n) (pAt a)).2) ∧ Below w.heap.size w w' := by
  have HZ := Lib.hid hz
  have HR := Lib.hid hr
  clear hz hr
  go_enter Tryd.func20, Tryd.ntmps20
  go_wp2_with fail
  refine (find_any B A n c f _ a (pAt a) w hn HZ.out HR.out hB (allL_bounds f n) (enters_of Tryd.func32 (by kernel_rfl) rfl) (tells_at a)).mono ?_
  rintro e w1 ⟨rfl, hb1⟩
  have HB := Lib.hid hb1
  have hz1 := hb1.size
  clear hb1
  go_wp2
  go_ret
  exact ⟨rfl, HB.out.alloc hz1 _⟩
theorem next_any (hn : n ≤ 1000) (hz : Sz w) (hr : PRow w B A n f) (hB : B ≤ w.heap.size) :
    Calls Tryd.prog 18 #[.slice A n c, .int .i64 a] w fun e w' => e = .returned (.tuple #[.int .i64 (foundV (allL f n) (pUp a)).1, .bool (foundS (allL f n) (pUp a))]) ∧ Below w.heap.size w w' := by
  have HZ := Lib.hid hz
  have HR := Lib.hid hr
  clear hz hr
  go_enter Tryd.func18, Tryd.ntmps18
  go_wp2_with fail
  refine (find_any B A n c f _ a (pUp a) w hn HZ.out HR.out hB (allL_bounds f n) (enters_of Tryd.func31 (by kernel_rfl) rfl) (tells_up a)).mono ?_
  rintro e w1 ⟨rfl, hb1⟩
  have HB := Lib.hid hb1
  have hz1 := hb1.size
  clear hb1
  go_wp2
  go_ret2
  exact ⟨rfl, HB.out.alloc hz1 _⟩

/-- Where all cells begin, and those of a page. -/
def allS (f : Nat → Int × Int) (n : Nat) : List Int := (allL f n).map (·.1)
def onS (f : Nat → Int × Int) (n : Nat) (p : Int) : List Int := if mayB f n = true ∧ 0 ≤ p ∧ p < n then (pageL p.toNat (numOf (f p.toNat)) (roomOf (f p.toNat))).map (·.1) else []
theorem Listed.over {w0 w w' : World} {xs : List Int} {e : Ending} (h : Listed w xs e w') (hb : Below w0.heap.size w0 w) : Listed w0 xs e w' := by
  obtain ⟨a, c, h1, h2, h3, h4, h5⟩ := h
  exact ⟨a, c, h1, h2, h3, h4, hb.trans (h5.mono hb.size)⟩

theorem Listed.out {w w' : World} {xs : List Int} {e : Ending} (h : Listed w xs e w') : ∃ a m c, e = .returned (.slice a m c) ∧ Hid (Listed w xs (.returned (.slice a m c)) w') := by
  obtain ⟨a, c, rfl, r⟩ := h
  exact ⟨a, xs.length, c, rfl, Lib.hid ⟨a, c, rfl, r⟩⟩

theorem all_any (hn : n ≤ 1000) (hz : Sz w) (hr : PRow w B A n f) (hB : B ≤ w.heap.size) :
    Calls Tryd.prog 14 #[.slice A n c] w (Listed w (allS f n)) := by
  have HZ := Lib.hid (hz.alloc (.cells #[.slice A n c] 22))
  have HR := Lib.hid (hr.alloc (.cells #[.slice A n c] 22) hB)
  have hp := hz.pos
  clear hz hr
  go_enter Tryd.func14, Tryd.ntmps14
  go_wp2_with fail
  refine (each_any _ _ _ _).mono ?_
  rintro e w1 ⟨rfl, rfl⟩
  go_wp2_with fail
  refine (starts_any _ _ (fun k => k = w.heap.size) (allL f n) _ (by have := allL_length f n; omega) (by rintro k rfl; simp) (enters_of Tryd.func42 (by kernel_rfl) rfl)
    (each_gives B _ A n c w.heap.size f _ hn HZ.out HR.out (by simp; omega) (by simp) (Nat.le_refl _) (by simp [go_sem]))).mono ?_
  rintro e w1 hl
  obtain ⟨a, m, c, rfl, HL⟩ := (hl.over ((Below.refl w.heap.size w).alloc (Nat.le_refl _) _)).out
  clear hl
  go_wp2
  go_ret
  exact HL.out
theorem listed_none {w w' : World} (hb : Below w.heap.size w w') : Listed w [] (.returned (.slice none 0 0)) w' := ⟨none, 0, rfl, Row.none_ _ _, Nat.le_refl _, by unfold maxLen; omega, hb⟩
theorem on_call (hn : n ≤ 1000) (hz : Sz w) (hr : PRow w B A n f) (hB : B ≤ w.heap.size) :
    Calls Tryd.prog 12 #[.slice A n c, .int .i64 a] w (Listed w (onS f n a)) := by
  have HZ := Lib.hid hz
  have HR := Lib.hid hr
  clear hz hr
  cases hM : mayB f n
  · have HM := Lib.hid hM
    have HL := Lib.hid (show onS f n a = [] from if_neg (by rw [hM]; simp))
    clear hM
    go_enter Tryd.func12, Tryd.ntmps12
    go_wp2_with fail
    refine (may_no B _ _ _ _ _ HM.out hn HR.out hB).mono ?_
    rintro e w1 ⟨rfl, hb1⟩
    have HB := Lib.hid hb1
    clear hb1
    go_wp2
    go_ret
    rw [HL.out]
    exact listed_none HB.out
  have HM := Lib.hid hM
  by_cases h0 : a < 0
  · have HL := Lib.hid (show onS f n a = [] from if_neg (by omega))
    have d0 : decide (a < 0) = true := by simpa using h0
    clear hM h0
    go_enter Tryd.func12, Tryd.ntmps12
    go_wp2_with fail
    refine (may_yes B _ _ _ _ _ HM.out HR.out hB).mono ?_
    rintro e w1 ⟨rfl, hb1⟩
    have HB := Lib.hid hb1
    clear hb1
    go_wp2
    go_ret
    rw [HL.out]
    exact listed_none HB.out
  by_cases h1 : (n : Int) ≤ a
  · have HL := Lib.hid (show onS f n a = [] from if_neg (by omega))
    have d0 : decide (a < 0) = false := by simpa using h0
    have d1 : decide ((n : Int) ≤ a) = true := by simpa using h1
    clear hM h0 h1
    go_enter Tryd.func12, Tryd.ntmps12
    go_wp2_with fail
    refine (may_yes B _ _ _ _ _ HM.out HR.out hB).mono ?_
    rintro e w1 ⟨rfl, hb1⟩
    have HB := Lib.hid hb1
    clear hb1
    go_wp2
    go_ret
    rw [HL.out]
    exact listed_none HB.out
  obtain ⟨k, rfl⟩ : ∃ k : Nat, a = k := ⟨a.toNat, by omega⟩
  have hk : k < n := by omega
  have HL := Lib.hid (show onS f n k = (pageL k (numOf (f k)) (roomOf (f k))).map (·.1) by unfold onS; rw [if_pos ⟨hM, by omega, by omega⟩, Int.toNat_natCast])
  have HP := Lib.hid (may_pm hM hk)
  have d0 : decide ((k : Int) < 0) = false := by simp
  have d1 : decide (n ≤ k) = false := by simp; omega
  clear hM h0 h1
  go_enter Tryd.func12, Tryd.ntmps12
  go_wp2_with fail
  refine (may_yes B _ _ _ _ _ HM.out HR.out hB).mono ?_
  rintro e w1 ⟨rfl, hb1⟩
  have HB := Lib.hid hb1
  have HZ1 := Lib.hid (HZ.out.over hb1 HZ.out.pos)
  have HR1 := Lib.hid (HR.out.over hb1 hB)
  have hz1 := hb1.size
  clear hb1
  go_wp2_with fail
  refine (on_any B A n c f k w1 HZ1.out hn hk HP.out HR1.out (by omega)).mono ?_
  rintro e w2 ⟨b0, b1, b2, rfl, ⟨g0, g1, g2⟩, c0, c1, c2, hb2⟩
  have HB2 := Lib.hid (HB.out.trans (hb2.mono hz1))
  have l0 : b0 < w2.heap.size := World.block_lt_of_cell? w2 _ c0
  have l1 : b1 < w2.heap.size := World.block_lt_of_cell? w2 _ c1
  have l2 : b2 < w2.heap.size := World.block_lt_of_cell? w2 _ c2
  have hnr := num_room HP.out
  have HG := Lib.hid (on_gives w2.heap.size k (numOf (f k)) (roomOf (f k)) b0 b1 b2 w2 (by have := (mayB_iff f n).1 HM.out; omega) hnr.1 hnr.2.1 hnr.2.2 c0 c1 c2)
  clear c0 c1 c2 hb2 hnr
  go_wp2_with fail
  refine (starts_any _ _ (fun b => b = b0 ∨ b = b1 ∨ b = b2) _ _ (by rw [pageL_length]; have := (num_room HP.out).1; omega) (by rintro i (rfl | rfl | rfl) <;> assumption) (enters_of Tryd.func41 (by kernel_rfl) rfl) HG.out).mono ?_
  rintro e w3 hl
  obtain ⟨a, m, c, rfl, HL3⟩ := (hl.over HB2.out).out
  clear hl
  go_wp2
  go_ret
  rw [HL.out]
  exact HL3.out
end
end Go.Proofs.YtlmaeppckaempaaDoor
