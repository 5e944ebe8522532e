/-
  Merged texts: HpLess, HpObj, HpWords, HpSetP, Zero, AlTakeP, AlTake, AlOn.
-/
import Derived.Test.YtdmclfolooiccaaGreatDoorHpAL
import Derived.Test.YtdmclfolooiccaaGreatDoorHpAK
import Derived.Test.YtdmclfolooiccaaGreatDoorHpAI
import Derived.Test.YtdmclfolooiccaaGreatDoorHpAJ
import Derived.Test.YtdmclfolooiccaaGreatDoorHpAG
section
namespace Go.Proofs.YtdmclfolooiccaaGreatDoor
open Go.ChangeShapes Go.WideShapes Go.ChangeAt Go.RowKit Go.Deep
set_option maxRecDepth 100000

theorem all_ahead (g : Nat → List Int) (F : Nat → Nat → List Int) (k : Nat) : Ls.allOf (ahead g F) (1 + (k + 1)) = Ls.allOf (ahead g F) (1 + k) ++ Ls.upTo (F k) 3 := by
  rw [show 1 + (k + 1) = 1 + k + 1 by omega, Ls.allOf_succ, show ahead g F (1 + k) = F k by rw [show 1 + k = k + 1 by omega]; rfl]
theorem mem_upTo3 {g : Nat → List Int} {x : Int} : x ∈ Ls.upTo g 3 ↔ ∃ j, j < 3 ∧ x ∈ g j := by
  unfold Ls.upTo
  rw [List.mem_flatMap]
  simp only [List.mem_range]
theorem mem_allOf {f : Nat → Nat → List Int} {n : Nat} {x : Int} : x ∈ Ls.allOf f n ↔ ∃ k j, k < n ∧ j < 3 ∧ x ∈ f k j := by
  unfold Ls.allOf
  rw [List.mem_flatMap]
  simp only [List.mem_range]
  constructor
  · rintro ⟨k, hk, h⟩
    obtain ⟨j, hj, h⟩ := mem_upTo3.1 h
    exact ⟨k, j, hk, hj, h⟩
  · rintro ⟨k, j, hk, hj, h⟩
    exact ⟨k, hk, mem_upTo3.2 ⟨j, hj, h⟩⟩
end Go.Proofs.YtdmclfolooiccaaGreatDoor
end
section
namespace Go.Proofs.YtdmclfolooiccaaGreatDoor
open Go.RowKit
set_option maxRecDepth 100000

/-- A walk through rising numbers: n of them are behind. -/
structure Upon (xs : List Int) (k : Nat) (t : Int) : Prop where
  le : k ≤ xs.length
  lo : ∀ i, i < k → xs.getD i 0 < t
  hi : ∀ i, k ≤ i → i < xs.length → t ≤ xs.getD i 0
theorem Upon.no {xs : List Int} {k : Nat} {t : Int} (h : Upon xs k t) (hn : ¬ t ∈ xs) : Upon xs k (t + 1) := ⟨h.le, fun i hi => by have := h.lo i hi; omega, fun i h1 h2 => by
  have h3 := h.hi i h1 h2
  have h4 : ¬ xs.getD i 0 = t := fun e => hn (e ▸ getD_mem h2)
  omega⟩
theorem Upon.yes {xs : List Int} {k : Nat} {t : Int} (h : Upon xs k t) (hr : xs.Pairwise (· < ·)) (hn : t ∈ xs) : k < xs.length ∧ xs.getD k 0 = t ∧ Upon xs (k + 1) (t + 1) := by
  obtain ⟨i, hi, e⟩ := List.mem_iff_getElem.1 hn
  have e' : xs.getD i 0 = t := by simp [List.getD, hi, e]
  have hki : k ≤ i := Nat.le_of_not_lt fun hlt => by have := h.lo i hlt; omega
  have hk : k < xs.length := by omega
  have hrise : ∀ p q, p < q → q < xs.length → xs.getD p 0 < xs.getD q 0 := fun p q hpq hq => by
    have := List.pairwise_iff_getElem.1 hr p q (by omega) hq hpq
    simpa [List.getD, hq, show p < xs.length by omega] using this
  have hk2 := h.hi k (Nat.le_refl _) hk
  have hik : i = k := by
    by_cases e2 : i = k
    · exact e2
    · have := hrise k i (by omega) hi
      omega
  subst hik
  exact ⟨hi, e', hi, fun j hj => by
    by_cases e2 : j = i
    · subst e2; omega
    · have := h.lo j (by omega); omega, fun j h1 h2 => by
    have := hrise i j (by omega) h2
    omega⟩
theorem Upon.all {xs : List Int} {k : Nat} {t : Int} (h : Upon xs k t) (ht : ∀ x ∈ xs, x < t) : k = xs.length := by
  have := h.le
  by_cases e : k = xs.length
  · exact e
  · have h1 := h.hi k (Nat.le_refl _) (by omega)
    have h2 := ht _ (getD_mem (show k < xs.length by omega))
    omega
end Go.Proofs.YtdmclfolooiccaaGreatDoor
end
section
namespace Go.Proofs.YtdmclfolooiccaaGreatDoor
open Go.RowKit
set_option maxRecDepth 100000

/-- Does a cell that begins at x hold the word at a? -/
def cov (f : Nat → Int × Int) (n : Nat) (a x : Int) : Bool := decide (x ≤ a) && decide (a < x + Cl.bg f n x)
theorem cov_cell {f : Nat → Int × Int} {n : Nat} {a : Int} {c : Int × Int} (hc : c ∈ Cl.allL f n) : cov f n a c.1 = Cl.pIn a c := by
  unfold cov Cl.pIn
  rw [Cl.bg_cell hc]
theorem cov_one {f : Nat → Int × Int} {n : Nat} {a x y : Int} (hx : x ∈ Cl.allS f n) (hy : y ∈ Cl.allS f n) (h1 : cov f n a x = true) (h2 : cov f n a y = true) : x = y := by
  obtain ⟨c, hc, rfl⟩ := List.mem_map.1 hx
  obtain ⟨e, he, rfl⟩ := List.mem_map.1 hy
  rw [cov_cell hc] at h1
  rw [cov_cell he] at h2
  rw [(Cl.allL_apart f n).one hc he h1 h2]
end Go.Proofs.YtdmclfolooiccaaGreatDoor
end
section
namespace Go.Proofs.YtdmclfolooiccaaGreatDoor
open Go.RowKit
set_option maxRecDepth 100000

/-- Another head with as many fields stands at a; all else is as it was. -/
structure Turned (s t : Hs) (d d' : Hd_) (a : Int) : Prop where
  len : Lens s t
  f : d'.f = d.f
  F : d'.F = d.F
  oth : ∀ y, 16 ≤ y → ¬ y = a → wd d' y = wd d y
  w1 : Hd.isWord (wd d' a) = true ∧ wd d' a % 2 = 1
  w2 : Hd.isWord (wd d a) = true ∧ wd d a % 2 = 1
  n : nOf (wd d' a) = nOf (wd d a)
section
variable {s t : Hs} {d d' : Hd_} {a : Int}
theorem Turned.word (h : Turned s t d d' a) {y : Int} (hy : 16 ≤ y) : Hd.isWord (wd d' y) = Hd.isWord (wd d y) ∧ (wd d' y % 2 = 1 ↔ wd d y % 2 = 1) ∧ nOf (wd d' y) = nOf (wd d y) ∧ (wd d' y = 0 ↔ wd d y = 0) := by
  by_cases e : y = a
  · subst e
    have h1 := h.w1
    have h2 := h.w2
    exact ⟨h1.1.trans h2.1.symm, ⟨fun _ => h2.2, fun _ => h1.2⟩, h.n, ⟨fun e => by omega, fun e => by omega⟩⟩
  · rw [h.oth y hy e]
    exact ⟨rfl, Iff.rfl, rfl, Iff.rfl⟩
theorem Turned.cell (h : Turned s t d d' a) {y : Int} (hy : 16 ≤ y) : cellAt d' y = cellAt d y := by
  obtain ⟨h1, h2, h3, _⟩ := h.word hy
  unfold cellAt cellB
  rw [h.f, show d'.ws.getD (y - 16).toNat 0 = wd d' y from rfl, show d.ws.getD (y - 16).toNat 0 = wd d y from rfl]
  by_cases hc : Hd.isWord (wd d y) = true ∧ wd d y % 2 = 1
  · have hc' : Hd.isWord (wd d' y) = true ∧ wd d' y % 2 = 1 := ⟨h1.trans hc.1, h2.2 hc.2⟩
    rw [if_pos hc, if_pos hc', h3]
  · have hc' : ¬ (Hd.isWord (wd d' y) = true ∧ wd d' y % 2 = 1) := fun e => hc ⟨h1.symm.trans e.1, h2.1 e.2⟩
    rw [if_neg hc, if_neg hc', h1]
theorem bg_in16 {f : Nat → Int × Int} {n : Nat} {y : Int} (h : ¬ Cl.bg f n y = 0) : 16 ≤ y :=
  Classical.byContradiction fun hn => h (Cl.bg_no fun e => hn e.2.1)
theorem Turned.freeH (h : Turned s t d d' a) (n : Nat) (y c : Int) : freeH d' n y c = Go.Proofs.YtdmclfolooiccaaGreatDoor.freeH d n y c := by
  unfold Go.Proofs.YtdmclfolooiccaaGreatDoor.freeH
  rw [h.f]
  by_cases hb : Cl.bg d.f n y = 0
  · rw [if_pos hb, if_pos hb]
  · rw [if_neg hb, if_neg hb]
    have h4 := (h.word (bg_in16 hb)).2.2.2
    rw [show d'.ws.getD (y - 16).toNat 0 = wd d' y from rfl, show d.ws.getD (y - 16).toNat 0 = wd d y from rfl]
    congr 1
    rw [Bool.eq_iff_iff, beq_iff_eq, beq_iff_eq]
    exact h4
theorem Turned.may (h : Turned s t d d' a) (m : Nat) (F : Nat → Nat → List Int) : mayH t d' m F = mayH s d m F := by
  unfold mayH firstB freeAll
  rw [h.len.1, h.len.2.1, h.len.2.2.2, h.f, h.F, all_congr fun y hy => h.cell (allS_in hy).1]
  simp only [h.freeH]
theorem Turned.may0 (h : Turned s t d d' a) : mayB0 t d' = mayB0 s d := h.may 0 noCaches
theorem Turned.used (h : Turned s t d d' a) : usedL t d' = usedL s d := by
  unfold usedL usedF
  rw [h.may0, h.f, h.len.2.1]
  split
  · refine List.filter_congr fun y hy => ?_
    rw [decide_eq_decide]
    exact (h.word (allS_in hy).1).2.1
  · rfl
theorem Turned.whole (h : Turned s t d d' a) (m : Nat) (F : Nat → Nat → List Int) : wholeH t d' m F = wholeH s d m F := by
  unfold wholeH
  rw [h.may, h.f, h.F, h.len.2.1]
  congr 1
  refine all_congr fun y hy => ?_
  congr 2
  rw [Bool.eq_iff_iff, beq_iff_eq, beq_iff_eq]
  exact (h.word (allS_in hy).1).2.2.2
end
end Go.Proofs.YtdmclfolooiccaaGreatDoor
end
section

namespace Go.Proofs.YtdmclfolooiccaaGreatDoor.Ar
open Go.Proofs.YtdmclfolooiccaaGreatDoor
set_option maxRecDepth 100000
open Go.RowKit

/-- The list with noughts at k places from o on. -/
def wipe (xs : List Int) : Nat → Nat → List Int
  | _, 0 => xs
  | o, k + 1 => wipe (xs.set o 0) (o + 1) k
theorem wipe_length : ∀ (k o : Nat) (xs : List Int), (wipe xs o k).length = xs.length
  | 0, _, _ => rfl
  | k + 1, o, xs => by rw [wipe, wipe_length k, List.length_set]
theorem wipe_snoc : ∀ (k o : Nat) (xs : List Int), (wipe xs o k).set (o + k) 0 = wipe xs o (k + 1)
  | 0, _, _ => rfl
  | k + 1, o, xs => by
    rw [wipe, show o + (k + 1) = o + 1 + k by omega, wipe_snoc k (o + 1) (xs.set o 0)]
    rfl
theorem wipe_getD : ∀ (k o : Nat) (xs : List Int) (j : Nat), o + k ≤ xs.length → (wipe xs o k).getD j 0 = if o ≤ j ∧ j < o + k then 0 else xs.getD j 0
  | 0, o, xs, j, _ => by rw [wipe, if_neg (by omega)]
  | k + 1, o, xs, j, h => by
    rw [wipe, wipe_getD k (o + 1) (xs.set o 0) j (by rw [List.length_set]; omega)]
    by_cases h1 : o + 1 ≤ j ∧ j < o + 1 + k
    · rw [if_pos h1, if_pos (by omega)]
    · rw [if_neg h1]
      by_cases h2 : o = j
      · subst h2
        rw [if_pos (by omega)]
        simp [List.getD, show o < xs.length by omega]
      · rw [if_neg (by omega)]
        simp [List.getD, List.getElem?_set_ne h2]

theorem _root_.Go.Proofs.YtdmclfolooiccaaGreatDoor.Mine.wiped {base e g c n : Nat} : ∀ (k o : Nat) (w : World) (xs : List Int), Mine w base e g n c xs → Mine (w.setCells g o (List.replicate k (.int .i64 0))) base e g n c (wipe xs o k)
  | 0, _, _, _, h => h
  | k + 1, o, w, xs, h => by
    rw [List.replicate_succ, World.setCells, wipe]
    exact Mine.wiped k (o + 1) _ _ (h.stored o 0)
theorem below_wiped {B g : Nat} {a : World} (hB : B ≤ g) : ∀ (vs : List Value) (o : Nat) (w : World), Below B a w → Below B a (w.setCells g o vs)
  | [], _, _, h => h
  | v :: r, o, w, h => by
    rw [World.setCells]
    exact below_wiped hB r (o + 1) _ (h.setCell (by simpa using hB) v)

theorem zero_ok (B : Nat) (A : Option Addr) (n c : Nat) (xs : List Int) (i m : Nat) (w : World) (h : mayB n = true) (h0 : 0 < m) (h1 : i + m ≤ n) (hr : Row w B A n xs) :
    Calls Tryz.prog 56 #[.slice A n c, .int .i64 (16 + i), .int .i64 m] w (Made w n (wipe xs i m)) := by
  have hn := (mayB_iff.1 h).2.1
  have hn0 := (mayB_iff.1 h).1
  have EI : (16 : Int) + i - 16 = i := by omega
  have H := Lib.hid h
  have HR := Lib.hid hr
  clear h hr
  have HS : Calls Tryz.prog 88 #[.slice A n c, .int .i64 (16 + i), .int .i64 m] w fun e w' => e = .returned (.tuple #[.int .i64 i, .int .i64 (i + m), .int .i64 0]) ∧ w = w' := by
    have := span_ok A n c (16 + i) m w H.out (by omega) (by omega) (by omega)
    rw [EI] at this
    exact this
  have HT := Lib.hid HS
  clear EI HS
  go_enter Tryz.func56, Tryz.ntmps56
  go_wp2_with fail
  refine (HT.out).mono ?_
  rintro e w' ⟨rfl, rfl⟩
  go_wp2_with fail
  refine (clone_ok _ _ _ _ _ _ (by omega) (by omega) HR.out).mono ?_
  rintro e w1 ⟨g, c', rfl, hm, hb⟩
  have HM := Lib.hid hm
  have hcm := hm.2.2.2.2
  have hnc := hm.2.2.2.1
  have hg := hm.2.1
  unfold maxLen at hcm
  have hcl : ∀ c ty, (Builtin.clear_ #[22] ty #[.slice (some ⟨g, i, none⟩) m c]).run Tryz.prog w1 = .ok (.tuple #[]) (w1.setCells g i (List.replicate m (.int .i64 0))) :=
    fun c ty => Lib.run_clear_slice w1 22 3 ty (.int .i64 0) Tryz.underlying22 zero_int rfl rfl g i m c h0 (fun j hj => by rw [HM.out.cell (i + j) (by omega)]; rfl) (fun j hj => HM.out.free _)
  clear hm
  go_wp2
  go_ret2
  exact ⟨g, c', rfl, HM.out.wiped _ _ _ _, below_wiped hg _ _ _ hb⟩
end Go.Proofs.YtdmclfolooiccaaGreatDoor.Ar
end
section
namespace Go.Proofs.YtdmclfolooiccaaGreatDoor
open Go.RowKit
set_option maxRecDepth 100000

/-- The first words of some cells are noughts. -/
def zeroAt (ws xs : List Int) : List Int := xs.foldl (fun l a => l.set (a - 16).toNat 0) ws
theorem zeroAt_snoc (ws xs : List Int) (a : Int) : zeroAt ws (xs ++ [a]) = (zeroAt ws xs).set (a - 16).toNat 0 := by simp [zeroAt]
theorem zeroAt_len : ∀ (xs ws : List Int), (zeroAt ws xs).length = ws.length
  | [], _ => rfl
  | a :: xs, ws => by
    show (zeroAt (ws.set (a - 16).toNat 0) xs).length = _
    rw [zeroAt_len xs, List.length_set]
theorem getD_set (ws : List Int) (i j : Nat) (v : Int) : (ws.set i v).getD j 0 = if i = j ∧ j < ws.length then v else ws.getD j 0 := by
  by_cases e : i = j
  · subst e
    by_cases h : i < ws.length
    · rw [if_pos ⟨rfl, h⟩]; simp [List.getD, h]
    · rw [if_neg (fun c => h c.2)]; simp [List.getD, h]
  · rw [if_neg (fun c => e c.1)]
    simp [List.getD, List.getElem?_set_ne e]
theorem zeroAt_get : ∀ (xs ws : List Int) (j : Nat), (∀ a ∈ xs, 16 ≤ a) → (zeroAt ws xs).getD j 0 = if (16 + (j : Int)) ∈ xs then 0 else ws.getD j 0
  | [], _, _, _ => rfl
  | a :: xs, ws, j, h => by
    show (zeroAt (ws.set (a - 16).toNat 0) xs).getD j 0 = _
    rw [zeroAt_get xs _ j (fun b hb => h b (List.mem_cons_of_mem _ hb)), getD_set]
    have ha := h a List.mem_cons_self
    by_cases hx : (16 + (j : Int)) ∈ xs
    · rw [if_pos hx, if_pos (List.mem_cons_of_mem _ hx)]
    · rw [if_neg hx]
      by_cases e : 16 + (j : Int) = a
      · rw [if_pos (show (16 + (j : Int)) ∈ a :: xs by rw [e]; exact List.mem_cons_self)]
        split
        · rfl
        · next hn =>
          have : ¬ j < ws.length := fun hl => hn ⟨by omega, hl⟩
          simp [List.getD, this]
      · rw [if_neg (show ¬ (16 + (j : Int)) ∈ a :: xs from fun hm => (List.mem_cons.1 hm).elim e hx), if_neg (by omega)]
theorem list_getD {xs ys : List Int} (hl : xs.length = ys.length) (h : ∀ j, xs.getD j 0 = ys.getD j 0) : xs = ys := by
  refine List.ext_getElem hl fun j h1 h2 => ?_
  have := h j
  simpa [List.getD, h1, h2] using this
theorem zeroAt_rev {xs : List Int} (ws : List Int) (h : ∀ a ∈ xs, 16 ≤ a) : zeroAt ws xs.reverse = zeroAt ws xs :=
  list_getD (by rw [zeroAt_len, zeroAt_len]) fun j => by
    rw [zeroAt_get _ _ _ (fun a ha => h a (List.mem_reverse.1 ha)), zeroAt_get _ _ _ h]
    simp only [List.mem_reverse]
/-- A page is split for a class. -/
def splitD (d : Hd_) (n k p : Nat) : Hd_ := ⟨zeroAt d.ws (Cl.onS (Cl.put d.f p (1, k)) n p), Cl.put d.f p (1, k), Ls.upd d.F k (d.F k ++ (Cl.onS (Cl.put d.f p (1, k)) n p).reverse), d.cs⟩
/-- Two of a class's free cells are moved. -/
def fillD (d : Hd_) (k : Nat) : Hd_ := ⟨d.ws, d.f, Ls.upd d.F k ((d.F k).take ((d.F k).length - 2)), d.cs⟩
def fillG (F G : Nat → List Int) (k : Nat) : Nat → List Int := Ls.upd G k (G k ++ ((F k).drop ((F k).length - 2)).reverse)
def popG (G : Nat → List Int) (k : Nat) : Nat → List Int := Ls.upd G k ((G k).take ((G k).length - 1))
def popA (G : Nat → List Int) (k : Nat) : Int := (G k).getD ((G k).length - 1) 0
/-- A head's word at a; all else of the cell is noughts. -/
def beginD (d : Hd_) (n : Nat) (a x : Int) : Hd_ := ⟨(Ar.wipe d.ws (a - 16).toNat (Cl.bg d.f n a).toNat).set (a - 16).toNat x, d.f, d.F, d.cs⟩
def largeD (d : Hd_) (p : Nat) (m : Int) : Hd_ := ⟨d.ws, Cl.large d.f p m, d.F, d.cs⟩
/-- What is told of as free: how often an address is told. -/
def told (d : Hd_) (G : Nat → List Int) (r : Nat) (R : Nat → Nat → List Int) (x : Int) : Nat := (Ls.upTo d.F 3).count x + (Ls.upTo G 3).count x + (Ls.allOf R r).count x
structure OkayBut (n : Nat) (a : Int) (d : Hd_) (G : Nat → List Int) (r : Nat) (R : Nat → Nat → List Int) : Prop where
  may : Cl.mayB d.f n = true
  cell : ∀ y, ¬ Cl.bg d.f n y = 0 → ¬ y = a → cellAt d y = true
  fF : ∀ j, j < 3 → ∀ x ∈ d.F j, freeH d n x (j : Nat) = true
  fG : ∀ j, j < 3 → ∀ x ∈ G j, freeH d n x (j : Nat) = true
  fR : ∀ k, k < r → ∀ j, j < 3 → ∀ x ∈ R k j, freeH d n x (j : Nat) = true
  one : ∀ x, told d G r R x ≤ 1
def Okay (n : Nat) (d : Hd_) (G : Nat → List Int) (r : Nat) (R : Nat → Nat → List Int) : Prop := OkayBut n 0 d G r R
def Full (n : Nat) (a : Int) (d : Hd_) (G : Nat → List Int) (r : Nat) (R : Nat → Nat → List Int) : Prop := ∀ y, ¬ Cl.bg d.f n y = 0 → ¬ y = a → wd d y = 0 → 0 < told d G r R y
theorem ahead_all (g : Nat → List Int) (F : Nat → Nat → List Int) : ∀ m, Ls.allOf (ahead g F) (1 + m) = Ls.upTo g 3 ++ Ls.allOf F m
  | 0 => by simp [Ls.allOf, ahead]
  | m + 1 => by rw [all_ahead, ahead_all g F m, Ls.allOf_succ, List.append_assoc]
theorem count_upTo (g : Nat → List Int) (x : Int) : (Ls.upTo g 3).count x = (g 0).count x + (g 1).count x + (g 2).count x := by
  simp [Ls.upTo, List.range_succ, List.count_append]; omega
theorem told_all (d : Hd_) (G : Nat → List Int) (r : Nat) (R : Nat → Nat → List Int) (x : Int) : (Ls.allOf (ahead d.F (ahead G R)) (1 + (1 + r))).count x = told d G r R x := by
  rw [ahead_all, ahead_all, List.count_append, List.count_append]
  unfold told
  omega
theorem bg_zero (f : Nat → Int × Int) (n : Nat) {a : Int} (h : ¬ Cl.bg f n a = 0) : ¬ a = 0 := fun e => by have := bg_in16 h; omega
theorem okay_iff {s : Hs} {d : Hd_} {G : Nat → List Int} {r : Nat} {R : Nat → Nat → List Int} : mayH s d (1 + r) (ahead G R) = true ↔ firstB s d = true ∧ Okay s.p.n d G r R := by
  constructor
  · intro h
    obtain ⟨h1, h2, h3, h4⟩ := mayH_all h
    have hf : ∀ k, k < 1 + (1 + r) → ∀ j, j < 3 → ∀ x ∈ ahead d.F (ahead G R) k j, freeH d s.p.n x (j : Nat) = true := fun k hk j hj => by
      have h5 := List.all_eq_true.1 h3 k (List.mem_range.2 hk)
      have h6 := List.all_eq_true.1 h5 j (List.mem_range.2 hj)
      exact List.all_eq_true.1 h6
    refine ⟨h1, ?_, fun y hy _ => List.all_eq_true.1 h2 y (mem_allS.2 hy), fun j hj => hf 0 (by omega) j hj, fun j hj => hf 1 (by omega) j hj, fun k hk j hj => hf (k + 2) (by omega) j hj, fun x => ?_⟩
    · unfold firstB at h1
      simp only [Bool.and_eq_true] at h1
      exact h1.2.1
    · rw [← told_all]
      exact List.nodup_iff_count.1 h4 x
  · rintro ⟨h1, h⟩
    have e2 : (Cl.allS d.f s.p.n).all (cellAt d) = true := List.all_eq_true.2 fun y hy => h.cell y (mem_allS.1 hy) (bg_zero _ _ (mem_allS.1 hy))
    have e3 : freeAll d s.p.n (1 + (1 + r)) (ahead d.F (ahead G R)) = true := List.all_eq_true.2 fun k hk => List.all_eq_true.2 fun j hj => List.all_eq_true.2 fun x hx => by
      have hk := List.mem_range.1 hk
      have hj := List.mem_range.1 hj
      match k, hx, hk with
      | 0, hx, _ => exact h.fF j hj x hx
      | 1, hx, _ => exact h.fG j hj x hx
      | k + 2, hx, hk => exact h.fR k (by omega) j hj x hx
    have e4 : (Ls.allOf (ahead d.F (ahead G R)) (1 + (1 + r))).Nodup := List.nodup_iff_count.2 fun x => by rw [told_all]; exact h.one x
    simp [mayH, h1, e2, e3, e4]
theorem whole_iff {s : Hs} {d : Hd_} {G : Nat → List Int} {r : Nat} {R : Nat → Nat → List Int} : wholeH s d (1 + r) (ahead G R) = true ↔ firstB s d = true ∧ Okay s.p.n d G r R ∧ Full s.p.n 0 d G r R := by
  have key : ((Cl.allS d.f s.p.n).all fun a => !(wd d a == 0) || decide (a ∈ Ls.allOf (ahead d.F (ahead G R)) (1 + (1 + r)))) = true ↔ Full s.p.n 0 d G r R := by
    rw [List.all_eq_true]
    constructor
    · intro h y hy _ h0
      have := h y (mem_allS.2 hy)
      rw [h0] at this
      have hm : y ∈ Ls.allOf (ahead d.F (ahead G R)) (1 + (1 + r)) := by simpa using this
      rw [← told_all]
      exact List.count_pos_iff.2 hm
    · intro h y hy
      have hb := mem_allS.1 hy
      by_cases h0 : wd d y = 0
      · have := h y hb (bg_zero _ _ hb) h0
        rw [← told_all] at this
        have hm := List.count_pos_iff.1 this
        simp [h0, hm]
      · simp [h0]
  unfold wholeH
  rw [Bool.and_eq_true, okay_iff, key, and_assoc]
section
variable {n r : Nat} {a : Int} {d d' : Hd_} {G : Nat → List Int} {R : Nat → Nat → List Int}
theorem cell_local {y : Int} (hw : wd d' y = wd d y) (hf : pgAt d' y = pgAt d y) : cellAt d' y = cellAt d y := by
  unfold cellAt
  rw [show d'.ws.getD (y - 16).toNat 0 = wd d' y from rfl, show d.ws.getD (y - 16).toNat 0 = wd d y from rfl, show d'.f (y / 16 - 1).toNat = pgAt d' y from rfl, show d.f (y / 16 - 1).toNat = pgAt d y from rfl, hw, hf]
theorem bg_local {f g : Nat → Int × Int} {y : Int} (h1 : Cl.mayB f n = true) (h2 : Cl.mayB g n = true) (e : g (y / 16 - 1).toNat = f (y / 16 - 1).toNat) : Cl.bg g n y = Cl.bg f n y := by
  unfold Cl.bg
  rw [h1, h2, e]
theorem free_local {y c : Int} (h1 : Cl.mayB d.f n = true) (h2 : Cl.mayB d'.f n = true) (hw : wd d' y = wd d y) (hf : pgAt d' y = pgAt d y) : freeH d' n y c = freeH d n y c := by
  unfold freeH
  rw [bg_local h1 h2 hf, show d'.ws.getD (y - 16).toNat 0 = wd d' y from rfl, show d.ws.getD (y - 16).toNat 0 = wd d y from rfl, show d'.f (y / 16 - 1).toNat = pgAt d' y from rfl, show d.f (y / 16 - 1).toNat = pgAt d y from rfl, hw, hf]
theorem free_facts {y c : Int} (h : freeH d n y c = true) : ¬ Cl.bg d.f n y = 0 ∧ pgAt d y = (1, c) ∧ wd d y = 0 := by
  unfold freeH at h
  split at h
  · cases h
  · next hb =>
    simp only [Bool.and_eq_true, decide_eq_true_eq, beq_iff_eq] at h
    exact ⟨hb, Prod.ext h.1.1 h.1.2, h.2⟩
theorem free_mk {y c : Int} (h1 : ¬ Cl.bg d.f n y = 0) (h2 : pgAt d y = (1, c)) (h3 : wd d y = 0) : freeH d n y c = true := by
  unfold freeH
  rw [if_neg h1, show d.ws.getD (y - 16).toNat 0 = wd d y from rfl, show d.f (y / 16 - 1).toNat = pgAt d y from rfl, h2, h3]
  simp
theorem upd_mem {F : Nat → List Int} {k j : Nat} {xs : List Int} {x : Int} (h : x ∈ Ls.upd F k xs j) : (j = k ∧ x ∈ xs) ∨ (¬ j = k ∧ x ∈ F j) := by
  unfold Ls.upd at h
  split at h
  · next e => exact .inl ⟨e, h⟩
  · next e => exact .inr ⟨e, h⟩
theorem upd_count {F : Nat → List Int} {k : Nat} {xs : List Int} {x : Int} (hk : k < 3) : (Ls.upTo (Ls.upd F k xs) 3).count x + (F k).count x = (Ls.upTo F 3).count x + xs.count x := by
  rw [count_upTo, count_upTo]
  rcases (show k = 0 ∨ k = 1 ∨ k = 2 by omega) with rfl | rfl | rfl
  · rw [Ls.upd_same, Ls.upd_other _ _ (by decide), Ls.upd_other _ _ (by decide)]; omega
  · rw [Ls.upd_same, Ls.upd_other _ _ (by decide), Ls.upd_other _ _ (by decide)]; omega
  · rw [Ls.upd_same, Ls.upd_other _ _ (by decide), Ls.upd_other _ _ (by decide)]; omega
/-- Two cells are moved. -/
theorem told_fill (k : Nat) (hk : k < 3) (x : Int) : told (fillD d k) (fillG d.F G k) r R x = told d G r R x := by
  have h1 := upd_count (F := d.F) (xs := (d.F k).take ((d.F k).length - 2)) (x := x) hk
  have h2 := upd_count (F := G) (xs := G k ++ ((d.F k).drop ((d.F k).length - 2)).reverse) (x := x) hk
  have h3 : (d.F k).count x = ((d.F k).take ((d.F k).length - 2)).count x + ((d.F k).drop ((d.F k).length - 2)).count x := by
    rw [← List.count_append, List.take_append_drop]
  rw [List.count_append, List.count_reverse] at h2
  unfold told fillD fillG
  simp only
  omega
theorem Okay.fill (h : Okay n d G r R) {k : Nat} (hk : k < 3) : Okay n (fillD d k) (fillG d.F G k) r R := by
  refine ⟨h.may, h.cell, fun j hj x hx => ?_, fun j hj x hx => ?_, h.fR, fun x => by rw [told_fill k hk]; exact h.one x⟩
  · rcases upd_mem hx with ⟨rfl, hx⟩ | ⟨_, hx⟩
    · exact h.fF _ hj x (List.mem_of_mem_take hx)
    · exact h.fF _ hj x hx
  · rcases upd_mem hx with ⟨rfl, hx⟩ | ⟨_, hx⟩
    · rcases List.mem_append.1 hx with hx | hx
      · exact h.fG _ hj x hx
      · exact h.fF _ hj x (List.mem_of_mem_drop (List.mem_reverse.1 hx))
    · exact h.fG _ hj x hx
theorem Full.fill (h : Full n a d G r R) {k : Nat} (hk : k < 3) : Full n a (fillD d k) (fillG d.F G k) r R := fun y h1 h2 h3 => by
  rw [told_fill k hk]
  exact h y h1 h2 h3
/-- The last cell of the cache is taken. -/
theorem told_pop {k : Nat} (hk : k < 3) (hg : 0 < (G k).length) (x : Int) : told d (popG G k) r R x + (if x = popA G k then 1 else 0) = told d G r R x := by
  have h1 := upd_count (F := G) (xs := (G k).take ((G k).length - 1)) (x := x) hk
  have h2 : G k = (G k).take ((G k).length - 1) ++ [popA G k] := by
    have := Ls.take_next (xs := G k) rfl (show (G k).length - 1 < (G k).length by omega)
    rwa [show (G k).length - 1 + 1 = (G k).length by omega, List.take_length] at this
  have h3 : (G k).count x = ((G k).take ((G k).length - 1)).count x + (if x = popA G k then 1 else 0) := by
    have h4 := congrArg (List.count x) h2
    rw [List.count_append] at h4
    rw [h4]
    congr 1
    by_cases e : x = popA G k
    · rw [if_pos e, e]; simp
    · rw [if_neg e]; simp [Ne.symm e]
  unfold told popG
  omega
theorem pop_free (h : Okay n d G r R) {k : Nat} (hk : k < 3) (hg : 0 < (G k).length) : freeH d n (popA G k) (k : Nat) = true := by
  exact h.fG k hk _ (getD_mem (by omega))
/-- .. and told of no more. -/
theorem pop_gone (h : Okay n d G r R) {k : Nat} (hk : k < 3) (hg : 0 < (G k).length) : told d (popG G k) r R (popA G k) = 0 := by
  have h1 := told_pop (d := d) (r := r) (R := R) hk hg (popA G k)
  have h2 := h.one (popA G k)
  rw [if_pos rfl] at h1
  omega
theorem Okay.pop (h : Okay n d G r R) {k : Nat} (hk : k < 3) (hg : 0 < (G k).length) : OkayBut n (popA G k) d (popG G k) r R := by
  refine ⟨h.may, fun y hy _ => h.cell y hy (bg_zero _ _ hy), h.fF, fun j hj x hx => ?_, h.fR, fun x => ?_⟩
  · rcases upd_mem hx with ⟨rfl, hx⟩ | ⟨_, hx⟩
    · exact h.fG _ hj x (List.mem_of_mem_take hx)
    · exact h.fG _ hj x hx
  · have h1 := told_pop (d := d) (r := r) (R := R) hk hg x
    have h2 := h.one x
    omega
theorem Full.pop (h : Full n 0 d G r R) {k : Nat} (hk : k < 3) (hg : 0 < (G k).length) : Full n (popA G k) d (popG G k) r R := fun y h1 h2 h3 => by
  have h4 := told_pop (d := d) (r := r) (R := R) hk hg y
  have h5 := h y h1 (bg_zero _ _ h1) h3
  rw [if_neg h2] at h4
  omega
end
section
variable {n r k p : Nat} {a : Int} {d : Hd_} {G : Nat → List Int} {R : Nat → Nat → List Int}
/-- What is told of is free. -/
theorem told_free (h : OkayBut n a d G r R) {x : Int} (hx : 0 < told d G r R x) : ∃ c : Int, freeH d n x c = true := by
  unfold told at hx
  have hc : 0 < (Ls.upTo d.F 3).count x ∨ 0 < (Ls.upTo G 3).count x ∨ 0 < (Ls.allOf R r).count x := by omega
  rcases hc with h1 | h1 | h1
  · obtain ⟨j, hj, hm⟩ := mem_upTo3.1 (List.count_pos_iff.1 h1)
    exact ⟨_, h.fF j hj x hm⟩
  · obtain ⟨j, hj, hm⟩ := mem_upTo3.1 (List.count_pos_iff.1 h1)
    exact ⟨_, h.fG j hj x hm⟩
  · obtain ⟨i, j, hi, hj, hm⟩ := mem_allOf.1 (List.count_pos_iff.1 h1)
    exact ⟨_, h.fR i hi j hj x hm⟩
theorem pg_none (y : Int) : Cl.pg (0, 0) y = 0 := by simp [Cl.pg]
theorem pg_rest (y : Int) : Cl.pg (3, 0) y = 0 := by simp [Cl.pg]
theorem bg_page {f : Nat → Int × Int} {y : Int} (h : ¬ Cl.bg f n y = 0) : Cl.mayB f n = true ∧ 16 ≤ y ∧ y < 16 + 16 * (n : Int) ∧ Cl.bg f n y = Cl.pg (f (y / 16 - 1).toNat) y := by
  unfold Cl.bg at h ⊢
  split at h
  · next hc => rw [if_pos hc]; exact ⟨hc.1, hc.2.1, hc.2.2, rfl⟩
  · exact absurd rfl h
/-- A cell's page is not one that is free. -/
theorem cell_off {f : Nat → Int × Int} {y : Int} {q : Nat} (h : ¬ Cl.bg f n y = 0) (hq : f q = (0, 0)) : ¬ (y / 16 - 1).toNat = q := fun e => by
  have h1 := bg_page h
  rw [h1.2.2.2, e, hq, pg_none] at h
  exact h rfl
theorem page_toNat {y : Int} (h : 16 ≤ y) (q : Nat) : (y / 16 - 1).toNat = q ↔ y / 16 - 1 = (q : Int) := by omega
theorem mem_on {f : Nat → Int × Int} {y : Int} : y ∈ Cl.onS f n p ↔ ¬ Cl.bg f n y = 0 ∧ (y / 16 - 1).toNat = p := by
  rw [← Cl.filter_allS, List.mem_filter, mem_allS, beq_iff_eq]
  constructor
  · rintro ⟨h1, h2⟩; exact ⟨h1, (page_toNat (bg_in16 h1) p).2 h2⟩
  · rintro ⟨h1, h2⟩; exact ⟨h1, (page_toNat (bg_in16 h1) p).1 h2⟩
theorem on_in16 {f : Nat → Int × Int} {q : Int} : ∀ y ∈ Cl.onS f n q, 16 ≤ y := fun y hy => by
  rw [← Cl.filter_allS, List.mem_filter, mem_allS] at hy
  exact bg_in16 hy.1
theorem on_nodup (f : Nat → Int × Int) (n : Nat) (q : Int) : (Cl.onS f n q).Nodup := by
  rw [← Cl.filter_allS]
  exact ((allS_lt f n).sublist List.filter_sublist).imp fun h => by omega
theorem on_short (f : Nat → Int × Int) (n : Nat) (q : Int) : (Cl.onS f n q).length ≤ 8 := by
  unfold Cl.onS
  split
  · next h => rw [List.length_map, Cl.pageL_length]; exact (Cl.num_room (Cl.may_pm h.1 (by omega))).1
  · simp
theorem wd_split {y : Int} (hy : 16 ≤ y) : wd (splitD d n k p) y = if y ∈ Cl.onS (Cl.put d.f p (1, k)) n p then 0 else wd d y := by
  unfold wd splitD
  simp only
  rw [zeroAt_get _ _ _ on_in16, show (16 + ((y - 16).toNat : Int)) = y by omega]
theorem find_one (h : Cl.findO d.f n 1 = some p) : Cl.mayB d.f n = true ∧ p < n ∧ (d.f p).1 = 0 := by
  obtain ⟨h1, _, h3, h4, _⟩ := Cl.findO_some.1 h
  have h5 := (Cl.freeB_iff _ _ _).1 h4 0 (by decide)
  exact ⟨h1, by have : (1 : Int).toNat = 1 := rfl; omega, by simpa using h5⟩
theorem told_split (hk : k < 3) (x : Int) : told (splitD d n k p) G r R x = told d G r R x + (Cl.onS (Cl.put d.f p (1, k)) n p).count x := by
  have h1 := upd_count (F := d.F) (xs := d.F k ++ (Cl.onS (Cl.put d.f p (1, k)) n p).reverse) (x := x) hk
  rw [List.count_append, List.count_reverse] at h1
  unfold told splitD
  simp only
  omega
theorem split_may (h : Cl.findO d.f n 1 = some p) (hk : k < 3) : Cl.mayB (Cl.put d.f p (1, (k : Int))) n = true := by
  obtain ⟨h1, h2, h3⟩ := find_one h
  exact Cl.small_may h1 h2 h3 (by omega) (by omega)
/-- A cell of another page, behind the split. -/
theorem split_other (h : Cl.findO d.f n 1 = some p) (hk : k < 3) {y : Int} (h16 : 16 ≤ y) (hy : ¬ (y / 16 - 1).toNat = p) : wd (splitD d n k p) y = wd d y ∧ pgAt (splitD d n k p) y = pgAt d y ∧ Cl.bg (splitD d n k p).f n y = Cl.bg d.f n y := by
  have h1 : pgAt (splitD d n k p) y = pgAt d y := Cl.put_ne hy
  refine ⟨?_, h1, bg_local (find_one h).1 (split_may h hk) h1⟩
  rw [wd_split h16, if_neg fun hm => hy (mem_on.1 hm).2]
theorem split_on {y : Int} (hy : y ∈ Cl.onS (Cl.put d.f p (1, (k : Int))) n p) : freeH (splitD d n k p) n y (k : Nat) = true := by
  obtain ⟨h1, h2⟩ := mem_on.1 hy
  refine free_mk h1 ?_ (by rw [wd_split (bg_in16 h1), if_pos hy])
  show Cl.put d.f p (1, (k : Int)) _ = _
  rw [h2, Cl.put_eq]
theorem split_keeps (h : Cl.findO d.f n 1 = some p) (hk : k < 3) {x c : Int} (hx : freeH d n x c = true) : freeH (splitD d n k p) n x c = true := by
  obtain ⟨h1, h2, h3⟩ := find_one h
  have hb := (free_facts hx).1
  have ho := split_other h hk (bg_in16 hb) (cell_off hb (Cl.free_zero h1 h2 h3).1)
  rw [free_local (d := d) (d' := splitD d n k p) h1 (split_may h hk) ho.1 ho.2.1]
  exact hx
theorem Okay.split (h : Okay n d G r R) (hf : Cl.findO d.f n 1 = some p) (hk : k < 3) : Okay n (splitD d n k p) G r R := by
  obtain ⟨h1, h2, h3⟩ := find_one hf
  have hz := (Cl.free_zero h1 h2 h3).1
  refine ⟨split_may hf hk, fun y hy _ => ?_, fun j hj x hx => ?_, fun j hj x hx => split_keeps hf hk (h.fG j hj x hx), fun i hi j hj x hx => split_keeps hf hk (h.fR i hi j hj x hx), fun x => ?_⟩
  · have h16 := bg_in16 hy
    by_cases hp : (y / 16 - 1).toNat = p
    · have hon : y ∈ Cl.onS (Cl.put d.f p (1, (k : Int))) n p := mem_on.2 ⟨hy, hp⟩
      obtain ⟨_, e2, e3⟩ := free_facts (split_on hon)
      unfold cellAt
      rw [show (splitD d n k p).ws.getD (y - 16).toNat 0 = wd (splitD d n k p) y from rfl, show (splitD d n k p).f (y / 16 - 1).toNat = pgAt (splitD d n k p) y from rfl, e2, e3]
      rfl
    · obtain ⟨e1, e2, e3⟩ := split_other hf hk h16 hp
      rw [cell_local e1 e2]
      rw [e3] at hy
      exact h.cell y hy (bg_zero _ _ hy)
  · rcases upd_mem hx with ⟨rfl, hx⟩ | ⟨_, hx⟩
    · rcases List.mem_append.1 hx with hx | hx
      · exact split_keeps hf hk (h.fF _ hj x hx)
      · exact split_on (List.mem_reverse.1 hx)
    · exact split_keeps hf hk (h.fF _ hj x hx)
  · rw [told_split hk]
    have h4 := h.one x
    have h5 := List.nodup_iff_count.1 (on_nodup (Cl.put d.f p (1, (k : Int))) n p) x
    by_cases hm : x ∈ Cl.onS (Cl.put d.f p (1, (k : Int))) n p
    · have h6 : told d G r R x = 0 := Nat.eq_zero_of_not_pos fun hc => by
        obtain ⟨c, hc⟩ := told_free h hc
        exact cell_off (free_facts hc).1 hz (mem_on.1 hm).2
      omega
    · have h7 := List.count_eq_zero_of_not_mem hm
      omega
theorem Full.split (hF : Full n 0 d G r R) (hf : Cl.findO d.f n 1 = some p) (hk : k < 3) : Full n 0 (splitD d n k p) G r R := fun y hy _ h0 => by
  rw [told_split hk]
  by_cases hp : (y / 16 - 1).toNat = p
  · have hon : y ∈ Cl.onS (Cl.put d.f p (1, (k : Int))) n p := mem_on.2 ⟨hy, hp⟩
    have := List.count_pos_iff.2 hon
    omega
  · obtain ⟨e1, e2, e3⟩ := split_other hf hk (bg_in16 hy) hp
    rw [e3] at hy
    rw [e1] at h0
    have := hF y hy (bg_zero _ _ hy) h0
    omega
/-- Pages for a large one. -/
theorem find_run {m : Int} (h : Cl.findO d.f n m = some p) : Cl.mayB d.f n = true ∧ 1 ≤ m ∧ m ≤ 4 ∧ (p : Int) + m ≤ n ∧ Cl.freeB d.f p m.toNat = true := by
  obtain ⟨h1, h2, h3, h4, _⟩ := Cl.findO_some.1 h
  have h5 := (Cl.runB_iff m).1 h2
  exact ⟨h1, h5.1, h5.2, by omega, h4⟩
theorem large_in {f : Nat → Int × Int} {m : Int} {q : Nat} : (q = p → Cl.large f p m q = (2, m)) ∧ (p < q → (q : Int) < p + m → Cl.large f p m q = (3, 0)) ∧ (q < p ∨ (p : Int) + m ≤ q → 1 ≤ m → Cl.large f p m q = f q) := by
  unfold Cl.large
  refine ⟨fun e => if_pos e, fun h1 h2 => ?_, fun h1 h2 => ?_⟩
  · rw [if_neg (by omega), if_pos ⟨h1, h2⟩]
  · rw [if_neg (by omega), if_neg (by omega)]
theorem large_free {m : Int} (h : Cl.findO d.f n m = some p) {q : Nat} (h1 : p ≤ q) (h2 : (q : Int) < p + m) : d.f q = (0, 0) := by
  obtain ⟨g1, g2, g3, g4, g5⟩ := find_run h
  have h3 := (Cl.freeB_iff _ _ _).1 g5 (q - p) (by omega)
  rw [show p + (q - p) = q by omega] at h3
  exact (Cl.free_zero g1 (by omega) h3).1
theorem large_off {m : Int} (h : Cl.findO d.f n m = some p) {y : Int} (hy : ¬ Cl.bg d.f n y = 0) : (y / 16 - 1).toNat < p ∨ (p : Int) + m ≤ (y / 16 - 1).toNat := by
  rcases Nat.lt_or_ge (y / 16 - 1).toNat p with h1 | h1
  · exact .inl h1
  · by_cases h2 : (((y / 16 - 1).toNat : Nat) : Int) < p + m
    · exact absurd rfl (cell_off hy (large_free h h1 h2))
    · exact .inr (by omega)
theorem large_mayB {m : Int} (h : Cl.findO d.f n m = some p) : Cl.mayB (Cl.large d.f p m) n = true := by
  obtain ⟨g1, g2, g3, g4, g5⟩ := find_run h
  exact Cl.large_may g1 g2 g3 g4 g5
theorem large_other {m : Int} (h : Cl.findO d.f n m = some p) {y : Int} (hy : ¬ Cl.bg d.f n y = 0) : pgAt (largeD d p m) y = pgAt d y ∧ Cl.bg (largeD d p m).f n y = Cl.bg d.f n y := by
  have h1 : pgAt (largeD d p m) y = pgAt d y := large_in.2.2 (large_off h hy) (find_run h).2.1
  exact ⟨h1, bg_local (find_run h).1 (large_mayB h) h1⟩
theorem large_cell {m : Int} (h : Cl.findO d.f n m = some p) {y : Int} (hy : ¬ Cl.bg (largeD d p m).f n y = 0) : y = 16 + 16 * (p : Int) ∨ ¬ Cl.bg d.f n y = 0 := by
  obtain ⟨g1, g2, g3, g4, g5⟩ := find_run h
  have h1 := bg_page hy
  have h2 := h1.2.2.2
  have h16 := h1.2.1
  rw [h2] at hy
  rcases Nat.lt_trichotomy (y / 16 - 1).toNat p with h3 | h3 | h3
  · have e : (largeD d p m).f (y / 16 - 1).toNat = d.f (y / 16 - 1).toNat := large_in.2.2 (.inl h3) g2
    rw [← bg_local g1 (large_mayB h) e, show Cl.large d.f p m = (largeD d p m).f from rfl, h2]
    exact .inr hy
  · have e : (largeD d p m).f (y / 16 - 1).toNat = (2, m) := large_in.1 h3
    rw [e] at hy
    left
    have h4 : y % 16 = 0 := Classical.byContradiction fun hn => hy (by simp [Cl.pg, hn])
    have h5 := (page_toNat h16 p).1 h3
    omega
  · by_cases h4 : (((y / 16 - 1).toNat : Nat) : Int) < p + m
    · have e : (largeD d p m).f (y / 16 - 1).toNat = (3, 0) := large_in.2.1 h3 h4
      rw [e, pg_rest] at hy
      exact absurd rfl hy
    · have e : (largeD d p m).f (y / 16 - 1).toNat = d.f (y / 16 - 1).toNat := large_in.2.2 (.inr (by omega)) g2
      rw [← bg_local g1 (large_mayB h) e, show Cl.large d.f p m = (largeD d p m).f from rfl, h2]
      exact .inr hy
theorem large_at {m : Int} (h : Cl.findO d.f n m = some p) : Cl.bg (largeD d p m).f n (16 + 16 * (p : Int)) = 16 * m ∧ pgAt (largeD d p m) (16 + 16 * (p : Int)) = (2, m) ∧ Cl.bg d.f n (16 + 16 * (p : Int)) = 0 := by
  obtain ⟨g1, g2, g3, g4, g5⟩ := find_run h
  have e1 : ((16 + 16 * (p : Int)) / 16 - 1).toNat = p := by omega
  have e2 : (16 + 16 * (p : Int)) / 16 - 1 = p := by omega
  have e3 : pgAt (largeD d p m) (16 + 16 * (p : Int)) = (2, m) := by
    unfold pgAt
    rw [e1]
    exact large_in.1 rfl
  refine ⟨?_, e3, ?_⟩
  · show Cl.bg (Cl.large d.f p m) n (16 + 16 * (p : Int)) = 16 * m
    rw [Cl.bg_in (k := p) (large_mayB h) (by omega) (by omega) e2, show (Cl.large d.f p m) p = (2, m) from large_in.1 rfl]
    unfold Cl.pg
    rw [if_pos ⟨rfl, by omega⟩]
  · rw [Cl.bg_in (k := p) g1 (by omega) (by omega) e2, large_free h (Nat.le_refl _) (by omega), pg_none]
theorem large_keeps {m : Int} (h : Cl.findO d.f n m = some p) {x c : Int} (hx : freeH d n x c = true) : freeH (largeD d p m) n x c = true := by
  have ho := large_other h (free_facts hx).1
  rw [free_local (d := d) (d' := largeD d p m) (find_run h).1 (large_mayB h) rfl ho.1]
  exact hx
theorem Okay.large {m : Int} (h : Okay n d G r R) (hf : Cl.findO d.f n m = some p) : OkayBut n (16 + 16 * (p : Int)) (largeD d p m) G r R := by
  refine ⟨large_mayB hf, fun y hy hne => ?_, fun j hj x hx => large_keeps hf (h.fF j hj x hx), fun j hj x hx => large_keeps hf (h.fG j hj x hx), fun i hi j hj x hx => large_keeps hf (h.fR i hi j hj x hx), h.one⟩
  have hb := (large_cell hf hy).resolve_left hne
  rw [cell_local (d := d) (d' := largeD d p m) rfl (large_other hf hb).1]
  exact h.cell y hb (bg_zero _ _ hb)
theorem Full.large {m : Int} (hF : Full n 0 d G r R) (hf : Cl.findO d.f n m = some p) : Full n (16 + 16 * (p : Int)) (largeD d p m) G r R := fun y hy hne h0 => by
  have hb := (large_cell hf hy).resolve_left hne
  exact hF y hb (bg_zero _ _ hb) h0
theorem large_gone {m : Int} (h : Okay n d G r R) (hf : Cl.findO d.f n m = some p) : told (largeD d p m) G r R (16 + 16 * (p : Int)) = 0 := Nat.eq_zero_of_not_pos fun hc => by
  obtain ⟨c, hc⟩ := told_free h (x := 16 + 16 * (p : Int)) hc
  exact (free_facts hc).1 (large_at hf).2.2
/-- A cell's words lie apart from every other one's. -/
theorem cells_off {f : Nat → Int × Int} {x y : Int} (hx : ¬ Cl.bg f n x = 0) (hy : ¬ Cl.bg f n y = 0) (hne : ¬ y = x) : ¬ (x ≤ y ∧ y < x + Cl.bg f n x) := fun hc => by
  have h1 := (Cl.bg_nonneg f n y).1
  refine hne (cov_one (a := y) (mem_allS.2 hy) (mem_allS.2 hx) ?_ ?_)
  · unfold cov; simp only [Bool.and_eq_true, decide_eq_true_eq]; omega
  · unfold cov; simp only [Bool.and_eq_true, decide_eq_true_eq]; exact hc
theorem cell_end {f : Nat → Int × Int} {x : Int} (hx : ¬ Cl.bg f n x = 0) : 16 ≤ x ∧ 2 ≤ Cl.bg f n x ∧ x + Cl.bg f n x ≤ 16 + 16 * (n : Int) := by
  obtain ⟨c, hc, rfl⟩ := List.mem_map.1 (mem_allS.2 hx)
  rw [Cl.bg_cell hc]
  have h1 := (Cl.allL_apart f n).2 c hc
  exact ⟨h1.1, h1.2, (Cl.allL_end hc).2⟩
theorem wd_begin {x : Int} (hb : ¬ Cl.bg d.f n a = 0) (hl : d.ws.length = 16 * n) {y : Int} (hy : 16 ≤ y) : wd (beginD d n a x) y = if y = a then x else if a ≤ y ∧ y < a + Cl.bg d.f n a then 0 else wd d y := by
  have h1 := cell_end hb
  unfold wd beginD
  simp only
  rw [getD_set, Ar.wipe_length, Ar.wipe_getD _ _ _ _ (by omega)]
  by_cases e : y = a
  · rw [if_pos ⟨by omega, by omega⟩, if_pos e]
  · rw [if_neg (by omega), if_neg e]
    by_cases e2 : a ≤ y ∧ y < a + Cl.bg d.f n a
    · rw [if_pos e2, if_pos ⟨by omega, by omega⟩]
    · rw [if_neg e2, if_neg (by omega)]
theorem begin_other {x : Int} (hb : ¬ Cl.bg d.f n a = 0) (hl : d.ws.length = 16 * n) {y : Int} (hy : ¬ Cl.bg d.f n y = 0) (hne : ¬ y = a) : wd (beginD d n a x) y = wd d y := by
  rw [wd_begin hb hl (bg_in16 hy), if_neg hne, if_neg (cells_off hb hy hne)]
theorem begin_at {x : Int} (hb : ¬ Cl.bg d.f n a = 0) (hl : d.ws.length = 16 * n) : wd (beginD d n a x) a = x := by
  rw [wd_begin hb hl (bg_in16 hb), if_pos rfl]
theorem begin_keeps {x : Int} (hm : Cl.mayB d.f n = true) (hb : ¬ Cl.bg d.f n a = 0) (hl : d.ws.length = 16 * n) {y c : Int} (hne : ¬ y = a) (hy : freeH d n y c = true) : freeH (beginD d n a x) n y c = true := by
  rw [free_local (d' := beginD d n a x) hm hm (begin_other hb hl (free_facts hy).1 hne) rfl]
  exact hy
theorem OkayBut.begin {x : Int} (h : OkayBut n a d G r R) (hg : told d G r R a = 0) (hb : ¬ Cl.bg d.f n a = 0) (hl : d.ws.length = 16 * n) (hx : cellB x (pgAt d a) = true) : Okay n (beginD d n a x) G r R := by
  have hne : ∀ y, 0 < told d G r R y → ¬ y = a := fun y hy e => by rw [e] at hy; omega
  have t1 : ∀ j, j < 3 → ∀ y ∈ d.F j, ¬ y = a := fun j hj y hy => hne y (by have := List.count_pos_iff.2 (mem_upTo3.2 ⟨j, hj, hy⟩); unfold told; omega)
  have t2 : ∀ j, j < 3 → ∀ y ∈ G j, ¬ y = a := fun j hj y hy => hne y (by have := List.count_pos_iff.2 (mem_upTo3.2 ⟨j, hj, hy⟩); unfold told; omega)
  have t3 : ∀ i, i < r → ∀ j, j < 3 → ∀ y ∈ R i j, ¬ y = a := fun i hi j hj y hy => hne y (by have := List.count_pos_iff.2 (mem_allOf.2 ⟨i, j, hi, hj, hy⟩); unfold told; omega)
  refine ⟨h.may, fun y hy _ => ?_, fun j hj y hy => begin_keeps h.may hb hl (t1 j hj y hy) (h.fF j hj y hy), fun j hj y hy => begin_keeps h.may hb hl (t2 j hj y hy) (h.fG j hj y hy), fun i hi j hj y hy => begin_keeps h.may hb hl (t3 i hi j hj y hy) (h.fR i hi j hj y hy), h.one⟩
  by_cases e : y = a
  · subst e
    unfold cellAt
    rw [show (beginD d n y x).ws.getD (y - 16).toNat 0 = wd (beginD d n y x) y from rfl, begin_at hb hl]
    exact hx
  · rw [cell_local (d' := beginD d n a x) (begin_other hb hl hy e) rfl]
    exact h.cell y hy e
theorem Full.begin {x : Int} (h : Full n a d G r R) (hb : ¬ Cl.bg d.f n a = 0) (hl : d.ws.length = 16 * n) (hx : ¬ x = 0) : Full n 0 (beginD d n a x) G r R := fun y hy _ h0 => by
  by_cases e : y = a
  · subst e
    rw [begin_at hb hl] at h0
    exact absurd h0 hx
  · rw [begin_other hb hl hy e] at h0
    exact h y hy e h0
end
end Go.Proofs.YtdmclfolooiccaaGreatDoor
end
section
namespace Go.Proofs.YtdmclfolooiccaaGreatDoor
open Go.RowKit
set_option maxRecDepth 100000

/-- The cache has a cell of the class, behind this. -/
def smallO (d : Hd_) (n : Nat) (G : Nat → List Int) (k : Nat) : Option (Hd_ × (Nat → List Int)) :=
  if 0 < (G k).length then some (d, G)
  else if 0 < (d.F k).length then some (fillD d k, fillG d.F G k)
  else match Cl.findO d.f n 1 with
    | some p => some (fillD (splitD d n k p) k, fillG (splitD d n k p).F G k)
    | none => none
/-- A cell is taken for N fields: what is left, and where it begins. -/
def takeO (d : Hd_) (n : Nat) (G : Nat → List Int) (N : Int) : Option (Hd_ × (Nat → List Int) × Int) :=
  if Cl.classOf N = 3 then (match Cl.findO d.f n (Cl.runOf N) with
    | some p => some (largeD d p (Cl.runOf N), G, 16 + 16 * (p : Int))
    | none => none)
  else match smallO d n G (Cl.classOf N).toNat with
    | some q => some (q.1, popG q.2 (Cl.classOf N).toNat, popA q.2 (Cl.classOf N).toNat)
    | none => none
/-- What is told. -/
structure Tk where
  er : Int
  wn : Nat
  pn : Nat
  cn : Nat
  d : Hd_
  G : Nat → List Int
  a : Int
def dNone : Hd_ := ⟨[], fun _ => (0, 0), Ls.noLists, fun _ => false⟩
def tkNo (er : Int) : Tk := ⟨er, 0, 0, 0, dNone, Ls.noLists, 0⟩
def argE (s : Hs) (d : Hd_) (G : Nat → List Int) (u o e : Bool) (N b m : Int) : Int := if mayH s d 1 (fun _ => G) = true ∧ Hd.mayB u o e N b m = true ∧ u = true then Cl.classErr N else 1
def tkR (s : Hs) (d : Hd_) (G : Nat → List Int) (u o e : Bool) (N b m : Int) : Tk :=
  if argE s d G u o e N b m = 0 then (match takeO d s.p.n G N with
    | some q => ⟨0, s.w.n, s.p.n, s.c.n, beginD q.1 s.p.n q.2.2 (Hd.word u o e N b m), q.2.1, q.2.2⟩
    | none => tkNo 4)
  else tkNo (argE s d G u o e N b m)
theorem class_cases {N : Int} (h : Cl.classErr N = 0) : 1 ≤ N ∧ N ≤ 63 := by
  unfold Cl.classErr at h
  split at h
  · omega
  · split at h <;> omega
theorem class_small {N : Int} (h3 : ¬ Cl.classOf N = 3) : 0 ≤ Cl.classOf N ∧ Cl.classOf N ≤ 2 := by
  unfold Cl.classOf at h3 ⊢
  repeat' split
  all_goals first | omega | (simp_all)
theorem class_large {N : Int} (h : Cl.classErr N = 0) (h3 : Cl.classOf N = 3) : Cl.runErr N = 0 ∧ 1 ≤ Cl.runOf N ∧ Cl.runOf N ≤ 4 := by
  have h1 := class_cases h
  unfold Cl.classOf at h3
  unfold Cl.runErr Cl.runOf
  repeat' split at h3
  all_goals first | omega | skip
  repeat' split
  all_goals omega
section
variable {n r : Nat} {d : Hd_} {G : Nat → List Int} {R : Nat → Nat → List Int}
theorem split_len (f : Nat → Int × Int) {n k p : Nat} (h : Cl.mayB (Cl.put f p (1, (k : Int))) n = true) (hp : p < n) (hk : k < 3) : 2 ≤ (Cl.onS (Cl.put f p (1, (k : Int))) n p).length := by
  unfold Cl.onS
  rw [if_pos ⟨h, by omega, by omega⟩, List.length_map, Cl.pageL_length, Int.toNat_natCast, Cl.put_eq]
  rcases (show k = 0 ∨ k = 1 ∨ k = 2 by omega) with rfl | rfl | rfl <;> decide
/-- What the cache is filled with. -/
theorem smallO_some {k : Nat} (hk : k < 3) {q : Hd_ × (Nat → List Int)} (h : smallO d n G k = some q) : 0 < (q.2 k).length ∧ (Okay n d G r R → Okay n q.1 q.2 r R) ∧ (Full n 0 d G r R → Full n 0 q.1 q.2 r R) ∧ q.1.ws.length = d.ws.length := by
  have hfl : ∀ F : Nat → List Int, 0 < (F k).length → 0 < (fillG F G k k).length := fun F hF => by
    unfold fillG
    rw [Ls.upd_same, List.length_append, List.length_reverse, List.length_drop]
    omega
  unfold smallO at h
  split at h
  · next h1 => cases h; exact ⟨h1, id, id, rfl⟩
  · split at h
    · next h2 => cases h; exact ⟨hfl _ h2, fun h => h.fill hk, fun h => h.fill hk, rfl⟩
    · split at h
      · next p hp =>
        cases h
        refine ⟨hfl _ ?_, fun h => (h.split hp hk).fill hk, fun h => (h.split hp hk).fill hk, zeroAt_len _ _⟩
        unfold splitD
        simp only
        rw [Ls.upd_same, List.length_append, List.length_reverse]
        have := split_len d.f (split_may hp hk) (find_one hp).2.1 hk
        omega
      · cases h
/-- What is taken. -/
structure Taken (n : Nat) (d : Hd_) (G : Nat → List Int) (r : Nat) (R : Nat → Nat → List Int) (N : Int) (d' : Hd_) (G' : Nat → List Int) (a : Int) : Prop where
  okay : Okay n d G r R → OkayBut n a d' G' r R
  full : Full n 0 d G r R → Full n a d' G' r R
  gone : Okay n d G r R → told d' G' r R a = 0
  cell : Okay n d G r R → ¬ Cl.bg d'.f n a = 0
  fits : Okay n d G r R → (pgAt d' a = (1, Cl.classOf N) ∧ ¬ Cl.classOf N = 3) ∨ (pgAt d' a = (2, Cl.runOf N) ∧ Cl.classOf N = 3)
  len : d'.ws.length = d.ws.length
theorem takeO_some {N : Int} {q : Hd_ × (Nat → List Int) × Int} (h : takeO d n G N = some q) : Taken n d G r R N q.1 q.2.1 q.2.2 := by
  unfold takeO at h
  split at h
  · next h3 =>
    split at h
    · next p hp =>
      cases h
      exact ⟨fun h => h.large hp, fun h => h.large hp, fun h => large_gone h hp, fun _ => by rw [(large_at hp).1]; have := (find_run hp).2.1; omega, fun _ => .inr ⟨(large_at hp).2.1, h3⟩, rfl⟩
    · cases h
  · next h3 =>
    have hc := class_small h3
    have hk : (Cl.classOf N).toNat < 3 := by omega
    split at h
    · next q' hq =>
      cases h
      obtain ⟨h1, h2, h4, h5⟩ := smallO_some (r := r) (R := R) hk hq
      refine ⟨fun h => (h2 h).pop hk h1, fun h => (h4 h).pop hk h1, fun h => pop_gone (h2 h) hk h1, fun h => (free_facts (pop_free (h2 h) hk h1)).1, fun h => .inl ⟨?_, h3⟩, h5⟩
      rw [(free_facts (pop_free (h2 h) hk h1)).2.1]
      have : (((Cl.classOf N).toNat : Nat) : Int) = Cl.classOf N := by omega
      rw [this]
    · cases h
theorem word_fits {o e : Bool} {N b m : Int} (hx : Hd.mayB true o e N b m = true) (hN : Cl.classErr N = 0) {p : Int × Int} (hp : (p = (1, Cl.classOf N) ∧ ¬ Cl.classOf N = 3) ∨ (p = (2, Cl.runOf N) ∧ Cl.classOf N = 3)) : cellB (Hd.word true o e N b m) p = true := by
  obtain ⟨p1, p2, p3, p4, p5, p6⟩ := Hd.word_parts hx
  unfold cellB
  rw [if_pos ⟨Hd.isWord_word hx, p1⟩, show nOf (Hd.word true o e N b m) = N from p4, hN]
  rcases hp with ⟨rfl, h3⟩ | ⟨rfl, h3⟩
  · simp
  · obtain ⟨h1, h2, h4⟩ := class_large hN h3
    simp [h1]
end
end Go.Proofs.YtdmclfolooiccaaGreatDoor
end
section
namespace Go.Proofs.YtdmclfolooiccaaGreatDoor.Cl
open Go.Proofs.YtdmclfolooiccaaGreatDoor
open Go.RowKit Go.Shelf
attribute [local go_sem] Oper.semAt_some

/-- These numbers were listed, in memory of the call's own. -/
def ListedO (w : World) (xs : List Int) (e : Ending) (w' : World) : Prop :=
  ∃ a c, e = .returned (.slice a xs.length c) ∧ w'.ownsRow w.heap.size 3 1 (.slice a xs.length c) xs.length (xs.map (Value.int .i64)) ∧ Below w.heap.size w w'
theorem ListedO.over {w0 w w' : World} {xs : List Int} {e : Ending} (h : ListedO w xs e w') (hb : Below w0.heap.size w0 w) : ListedO w0 xs e w' := by
  obtain ⟨a, c, h1, h2, h3⟩ := h
  have hs := hb.size
  exact ⟨a, c, h1, ⟨h2.1, h2.2.imp id fun ⟨g, cap, cur, e, hg, r⟩ => ⟨g, cap, cur, e, by omega, r⟩⟩, hb.trans (h3.mono hs)⟩
theorem ListedO.out {w w' : World} {xs : List Int} {e : Ending} (h : ListedO w xs e w') : ∃ a m c, e = .returned (.slice a m c) ∧ Hid (ListedO w xs (.returned (.slice a m c)) w') := by
  obtain ⟨a, c, rfl, r⟩ := h
  exact ⟨a, xs.length, c, rfl, Lib.hid ⟨a, c, rfl, r⟩⟩
theorem listedO_none {w w' : World} (hb : Below w.heap.size w w') : ListedO w [] (.returned (.slice none 0 0)) w' := ⟨none, 0, rfl, World.ownsRow_nil _ _ _ _, hb⟩
set_option maxRecDepth 100000 in
set_option maxHeartbeats 1000000 in
theorem starts_own (gf : Nat) (lb : Array Value) (C : Nat → Prop) (L : List (Int × Int)) (w : World) (hL : L.length ≤ 1000) (hC : ∀ k, C k → k < w.heap.size) (eg : ∀ args w, (callFunc gf args).run Tryz.prog w = .ok (.enter gf args) w)
    (hs : Gives Tryz.prog gf lb encC w.heap.size C L w) :
    Calls Tryz.prog 106 #[.func (.func gf) #[] lb] w (ListedO w (L.map (·.1))) := by
  obtain ⟨i0, hi, hz0, hz1, hz2⟩ := info_parts info_int1
  have HS : Hid (Gives Tryz.prog gf lb encC w.heap.size C L (w.alloc (.cells #[.slice none 0 0] 22))) := Lib.hid (hs.later ((Below.refl _ _).alloc (Nat.le_refl _) _))
  have HC := Lib.hid hC
  have HE := Lib.hid eg
  clear hs hC eg
  refine (callsIn_wide (n := 1)).1 ?_
  refine callsIn_of_wp_marks Tryz.func106 rfl trivial ?_ rfl
  simp only [Tryz.ntmps106, List.size_toArray, List.length_cons, List.length_nil, Nat.reduceAdd, Nat.reduceSub, Array.replicate_succ, Array.replicate_zero, List.push_toArray, List.append_toArray, List.nil_append, List.cons_append]
  gi_wp2
  refine range_gives (gf := gf) rfl HE.out HS.out (fun _ => rfl) (by simp) (fun _ => False) (fun k h => .inr (HC.out k h)) (fun _ h => h.elim) (Fills w) (fun _ _ _ _ => False) (Fills.bides w) (fun _ _ _ _ _ _ h _ _ _ => h) ?start ?round ?done ?stop
  case start => exact ⟨.slice none 0 0, Boxed.new w _ _, fun h => h, World.ownsRow_nil _ _ _ _, by simp [Value.ownBlock], fun _ h => h.elim, (Below.refl _ _).alloc (Nat.le_refl _) _⟩
  case stop =>
    rintro D c M pre W _ _ _ h _
    exact h.elim
  case done =>
    rintro D M W hD hDW hM ⟨v, hv⟩ hdef
    have hc := hv.box.cell
    have HV := Lib.hid hv
    clear hv
    dsimp only
    gi_wp2
    refine leave_marks [D] W (by simp) (by simpa using hdef) (fun W' h1 h2 h3 h4 h5 => ⟨_, results_tmp rfl _ _ _, ?_⟩)
    have hv := HV.out
    have hrow : W'.ownsRow w.heap.size 3 1 v (L.map (·.1)).length ((L.map (·.1)).map (Value.int .i64)) := by
      have := World.ownsRow.same hv.row (w' := W') (fun g hg _ => h5 g (by simp; rintro rfl; exact hv.off _ hg hM))
      simpa [Function.comp_def] using this
    obtain ⟨a, c, rfl, hr, hc1, hc2⟩ := owns_row hrow
    refine ⟨a, c, rfl, hrow, hv.bel.trans ⟨h1, h2, h3, by omega, fun k hk => h5 k ?_⟩⟩
    simp at hD ⊢
    omega
  case round =>
    intro l M pre x W hl hM hlt hpre hf
    obtain ⟨q, r⟩ := x
    have hlen : pre.length + 1 ≤ 1000 := by have := hpre.length_le; simp at this; omega
    have HF := Lib.hid hf
    have hz := HF.out.elim fun _ h => h.bel.size
    clear hf hpre
    dsimp only [encC]
    gi_wp2
    refine ⟨⟨(Below.refl _ _).alloc hz _, fun i _ hi => Below.heap_alloc _ _ _ hi⟩, fun o => ?_⟩
    obtain ⟨V, hV⟩ : ∃ V, V = (W.alloc (.cells #[.int .i64 q, .int .i64 r] 111)).putObj l o := ⟨_, rfl⟩
    rw [← hV]
    have hb2 : Below w.heap.size W V := by rw [hV]; exact ((Below.refl _ _).alloc hz _).trans (below_turned _ (by simp at hl; omega))
    have hs2 : ∀ i, i < W.heap.size → i ≠ l → V.heap[i]? = W.heap[i]? := fun i hi hn => by rw [hV]; exact (World.putObj_heap_other hn).trans (Below.heap_alloc _ _ _ hi)
    obtain ⟨v, hv⟩ := Fills.bides w M M pre W V HF.out hb2 (fun i hi hn => hs2 i hi (fun e => hn (e ▸ hM))) (fun i hi => .inl hi)
    have e0 : V.cell? ⟨W.heap.size, 0, none⟩ = some (.int .i64 q) := by
      rw [hV, World.cell?_of_block (a := ⟨W.heap.size, 0, none⟩) (World.putObj_heap_other (w := W.alloc _) (k := W.heap.size) (by omega))]
      simp [go_sem]
    have hc := hv.box.cell
    have hzV := hv.bel.size
    have hrow := hv.row
    have HV := Lib.hid hv
    clear hV hb2 hs2 hv
    gi_wp2_with (gi_at_builtin; refine listIn_append_lies _ rfl _ _ 22 rfl w.heap.size 3 i0 (.int .i64 0) 1 8 Tryz.underlying22 hi hz0 hz1 hz2 rfl (by decide) _ _ _ rfl (hrow.alloc _) ⟨V.heap.size, 0, none⟩ 1 1 [.int .i64 q] rfl rfl (cell_one_new _ _ _) (by simp [Value.oneCell']) (by decide) (by unfold maxLen; omega) (by omega) (by simp; omega) (V.heap.size + 1) (by simp) ?_; intro g cap w1 hown hgrow hat _; have hbx := (HV.out.box.alloc _).kept hgrow (HV.out.box.not_row (by decide) HV.out.row); have hc1 := hbx.cell; have hf1 := hbx.frozen)
    exact filled HV.out hown hgrow hat hbx
section
variable (B : Nat) (A : Option Addr) (n c : Nat) (f : Nat → Int × Int) (a : Int) (w : World)
theorem on_own (hn : n ≤ 1000) (hz : Sz w) (hr : PRow w B A n f) (hB : B ≤ w.heap.size) :
    Calls Tryz.prog 129 #[.slice A n c, .int .i64 a] w (ListedO w (onS f n a)) := by
  have HZ := Lib.hid hz
  have HR := Lib.hid hr
  clear hz hr
  cases hM : mayB f n
  · have HM := Lib.hid hM
    have HL := Lib.hid (show onS f n a = [] from if_neg (by rw [hM]; simp))
    clear hM
    go_enter Tryz.func129, Tryz.ntmps129
    go_wp2_with fail
    refine (may_no B _ _ _ _ _ HM.out hn HR.out hB).mono ?_
    rintro e w1 ⟨rfl, hb1⟩
    have HB := Lib.hid hb1
    clear hb1
    go_wp2
    go_ret
    rw [HL.out]
    exact listedO_none HB.out
  have HM := Lib.hid hM
  by_cases h0 : a < 0
  · have HL := Lib.hid (show onS f n a = [] from if_neg (by omega))
    have d0 : decide (a < 0) = true := by simpa using h0
    clear hM h0
    go_enter Tryz.func129, Tryz.ntmps129
    go_wp2_with fail
    refine (may_yes B _ _ _ _ _ HM.out HR.out hB).mono ?_
    rintro e w1 ⟨rfl, hb1⟩
    have HB := Lib.hid hb1
    clear hb1
    go_wp2
    go_ret
    rw [HL.out]
    exact listedO_none HB.out
  by_cases h1 : (n : Int) ≤ a
  · have HL := Lib.hid (show onS f n a = [] from if_neg (by omega))
    have d0 : decide (a < 0) = false := by simpa using h0
    have d1 : decide ((n : Int) ≤ a) = true := by simpa using h1
    clear hM h0 h1
    go_enter Tryz.func129, Tryz.ntmps129
    go_wp2_with fail
    refine (may_yes B _ _ _ _ _ HM.out HR.out hB).mono ?_
    rintro e w1 ⟨rfl, hb1⟩
    have HB := Lib.hid hb1
    clear hb1
    go_wp2
    go_ret
    rw [HL.out]
    exact listedO_none HB.out
  obtain ⟨k, rfl⟩ : ∃ k : Nat, a = k := ⟨a.toNat, by omega⟩
  have hk : k < n := by omega
  have HL := Lib.hid (show onS f n k = (pageL k (numOf (f k)) (roomOf (f k))).map (·.1) by unfold onS; rw [if_pos ⟨hM, by omega, by omega⟩, Int.toNat_natCast])
  have HP := Lib.hid (may_pm hM hk)
  have d0 : decide ((k : Int) < 0) = false := by simp
  have d1 : decide (n ≤ k) = false := by simp; omega
  clear hM h0 h1
  go_enter Tryz.func129, Tryz.ntmps129
  go_wp2_with fail
  refine (may_yes B _ _ _ _ _ HM.out HR.out hB).mono ?_
  rintro e w1 ⟨rfl, hb1⟩
  have HB := Lib.hid hb1
  have HZ1 := Lib.hid (HZ.out.over hb1 HZ.out.pos)
  have HR1 := Lib.hid (HR.out.over hb1 hB)
  have hz1 := hb1.size
  clear hb1
  go_wp2_with fail
  refine (on_any B A n c f k w1 HZ1.out hn hk HP.out HR1.out (by omega)).mono ?_
  rintro e w2 ⟨b0, b1, b2, rfl, ⟨g0, g1, g2⟩, c0, c1, c2, hb2⟩
  have HB2 := Lib.hid (HB.out.trans (hb2.mono hz1))
  have l0 : b0 < w2.heap.size := World.block_lt_of_cell? w2 _ c0
  have l1 : b1 < w2.heap.size := World.block_lt_of_cell? w2 _ c1
  have l2 : b2 < w2.heap.size := World.block_lt_of_cell? w2 _ c2
  have hnr := num_room HP.out
  have HG := Lib.hid (on_gives w2.heap.size k (numOf (f k)) (roomOf (f k)) b0 b1 b2 w2 (by have := (mayB_iff f n).1 HM.out; omega) hnr.1 hnr.2.1 hnr.2.2 c0 c1 c2)
  clear c0 c1 c2 hb2 hnr
  go_wp2_with fail
  refine (starts_own _ _ (fun b => b = b0 ∨ b = b1 ∨ b = b2) _ _ (by rw [pageL_length]; have := (num_room HP.out).1; omega) (by rintro i (rfl | rfl | rfl) <;> assumption) (enters_of Tryz.func135 (by kernel_rfl) rfl) HG.out).mono ?_
  rintro e w3 hl
  obtain ⟨a, m, c, rfl, HL3⟩ := (hl.over HB2.out).out
  clear hl
  go_wp2
  go_ret
  rw [HL.out]
  exact HL3.out
end
end Go.Proofs.YtdmclfolooiccaaGreatDoor.Cl
end
