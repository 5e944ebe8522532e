/-
  A heap that room was taken from, as laws of layer 9 hold it.
-/
import Derived.Test.YtcbnefjfoeanoaaGreatDoorHpYH
import Derived.Test.YtcbnefjfoeanoaaGreatDoorHpYF
namespace Go.Proofs.YtcbnefjfoeanoaaGreatDoor.Rp
open Go.Proofs.YtcbnefjfoeanoaaGreatDoor
open Go.RowKit
set_option maxRecDepth 100000

theorem all_short {n : Nat} {d : Hd_} {F : Nat → Nat → List Int} (hd : ∀ j, j < 3 → (d.F j).length ≤ 1000) (hF : ∀ i, i < n → ∀ j, j < 3 → (F i j).length ≤ 1000) (hn : n ≤ 4) : (Ls.allOf (ahead d.F F) (1 + n)).length ≤ 2000000 := by
  have f0 := hd 0 (by decide)
  have f1 := hd 1 (by decide)
  have f2 := hd 2 (by decide)
  have key : ∀ m, m ≤ 1 + n → (Ls.allOf (ahead d.F F) m).length ≤ 3000 * m := fun m => by
    induction m with
    | zero => intro _; simp [Ls.allOf]
    | succ m ih =>
      intro hm
      rw [Ls.allOf_succ, List.length_append, upTo3]
      have := ih (by omega)
      cases m with
      | zero => simp only [ahead]; omega
      | succ i => have a0 := hF i (by omega) 0 (by decide); have a1 := hF i (by omega) 1 (by decide); have a2 := hF i (by omega) 2 (by decide); simp only [ahead]; omega
  have := key (1 + n) (Nat.le_refl _)
  omega
/-- What a law holds of a heap that room was taken from. -/
structure Tkn (s : Hs) (d d' : Hd_) (a : Int) : Prop where
  lite : ∀ t, Same3 s t → Lite9 t d' 0 noCaches 78
  okl : ∀ t, Same3 s t → Okl t d'
  head : ∀ t, Same3 s t → headE t d' a = 0
  used : (usedL s d').length = (usedL s d).length + 1
  keeps : ∀ y ∈ usedL s d, ¬ y = a ∧ Same4 s.p.n d d' y ∧ y ∈ usedL s d'
section
variable {s : Hs} {d d' : Hd_} {G G' : Nat → List Int} {N a : Int}
/-- The parts of it, with names for what is long. -/
theorem tkn_of (hok : Okl s d) (hm : mayH s d 1 (fun _ => G) = true) (hx : Hd.mayB true false false N 0 0 = true)
    (T : ∀ t, Same3 s t → Took s t d G false false N 0 0 ⟨0, s.w.n, s.p.n, s.c.n, d', G', a⟩) (L : ∀ t, Same3 s t → Lite t d' G' (70 + 8)) (hs : ∀ y, ¬ Cl.bg d.f s.p.n y = 0 → ¬ y = a → Same4 s.p.n d d' y) : Tkn s d d' a := by
  have Ts := T s ⟨rfl, rfl, rfl⟩
  have lite : ∀ t, Same3 s t → Lite9 t d' 0 noCaches 78 := fun t h => ⟨(L t h).w, (L t h).p, (L t h).c, (L t h).F, fun i hi => absurd hi (Nat.not_lt_zero i), Nat.zero_le _, (L t h).hv⟩
  have may0 : ∀ t, Same3 s t → mayB0 t d' = true := fun t h => by
    have := (T t h).may 0 (fun _ => G) (by rw [ahead_one]; exact hm)
    exact may_none this
  have okl : ∀ t, Same3 s t → Okl t d' := fun t h => ⟨(lite t h).fine (by decide), may0 t h, by rw [h.1, ← hok.ws]; exact Ts.len⟩
  have hp1 := (Hd.word_parts hx).1
  have hx0 : ¬ Hd.word true false false N 0 0 = 0 := fun e0 => by rw [e0] at hp1; omega
  have hu := used_more Ts rfl hok.may (may0 s ⟨rfl, rfl, rfl⟩) hx0 hs
  have hc : ¬ Cl.bg d'.f s.p.n a = 0 := Ts.cell
  have hw : wd d' a = Hd.word true false false N 0 0 := Ts.word
  refine ⟨lite, okl, fun t h => ?_, hu, fun y hy => ?_⟩
  · exact (took_head (may0 t h) (by rw [h.2.1]; exact hc) hw hx).1
  · have hu := (used_iff8 hok.may).1 hy
    obtain ⟨k1, k2⟩ := Ts.keeps y hu.1 hu.2
    have k3 : Same4 s.p.n d d' y := k2
    exact ⟨k1, k3, (used_iff8 (may0 s ⟨rfl, rfl, rfl⟩)).2 ⟨by rw [k3.bg]; exact hu.1, by rw [k3.wd y (Int.le_refl _) (bg_self hu.1)]; exact hu.2⟩⟩
end
theorem tkn {s : Hs} {d : Hd_} {G : Nat → List Int} {N : Int} {q : Hd_ × (Nat → List Int) × Int} (hl : Lite s d G 70) (hok : Okl s d) (hm : mayH s d 1 (fun _ => G) = true) (hx : Hd.mayB true false false N 0 0 = true) (hN : Cl.classErr N = 0) (hq : takeO d s.p.n G N = some q) :
    Tkn s d (beginD q.1 s.p.n q.2.2 (Hd.word true false false N 0 0)) q.2.2 ∧ (∀ k R, wholeH s d (1 + k) (ahead G R) = true → wholeH s (beginD q.1 s.p.n q.2.2 (Hd.word true false false N 0 0)) (1 + k) (ahead q.2.1 R) = true) ∧ ∀ j, j < 3 → (q.2.1 j).length ≤ 70 + 8 := by
  have T := fun (t : Hs) (h : Same3 s t) => took (t := t) hok.ws hm hx hN hq h.1 h.2.1 h.2.2
  have hok0 : Okay s.p.n d G 0 (fun _ => G) := (okay_iff.1 (by rw [ahead_one]; exact hm)).2
  have T0 := takeO_some (r := 0) (R := fun _ => G) hq
  have hwp := hok.wp.1
  have hlen : q.1.ws.length = 16 * s.p.n := by rw [T0.len, hok.ws, hwp]
  have L := fun (t : Hs) (h : Same3 s t) => hl.took (t := t) hx hq (T0.cell hok0) hlen h.1 h.2.1 h.2.2
  have hs := took_same (x := Hd.word true false false N 0 0) hok.ws hm hq
  exact ⟨tkn_of hok hm hx T L hs, fun k R h => (T s ⟨rfl, rfl, rfl⟩).whole k R h, (L s ⟨rfl, rfl, rfl⟩).G⟩
end Go.Proofs.YtcbnefjfoeanoaaGreatDoor.Rp
