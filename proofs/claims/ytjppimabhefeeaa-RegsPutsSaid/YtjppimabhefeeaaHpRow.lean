/-
  A heap in memory: words, pages, free cells, cards; the reference's Few and Light.
-/
import Derived.Test.YtjppimabhefeeaaLsAll
import Derived.Test.YtjppimabhefeeaaPgRow
namespace Go.Proofs.Ytjppimabhefeeaa
open Go.RowKit

/-- A heap's slices. -/
structure Hs where
  w : Ls.Sl
  p : Ls.Sl
  u : Nat → Ls.Sl
  c : Ls.Sl
/-- Truth values in a slice. -/
def BRow (w : World) (B : Nat) (a : Option Addr) (n : Nat) (f : Nat → Bool) : Prop :=
  0 < n → ∃ b off, a = some ⟨b, off, none⟩ ∧ b < B ∧ ∀ i, i < n → w.cell? ⟨b, off + i, none⟩ = some (.bool (f i))
theorem BRow.below {w w' : World} {B n : Nat} {a : Option Addr} {f : Nat → Bool} (h : BRow w B a n f) (hb : Below B w w') : BRow w' B a n f := fun hn => by
  obtain ⟨b, off, e, hlt, hc⟩ := h hn
  exact ⟨b, off, e, hlt, fun i hi => (hb.cell (p := ⟨b, off + i, none⟩) hlt).trans (hc i hi)⟩
theorem BRow.more {w : World} {B C n : Nat} {a : Option Addr} {f : Nat → Bool} (h : BRow w B a n f) (hB : B ≤ C) : BRow w C a n f := fun hn => by
  obtain ⟨b, off, e, hlt, hc⟩ := h hn
  exact ⟨b, off, e, Nat.lt_of_lt_of_le hlt hB, hc⟩
/-- What a heap holds. -/
structure Hd_ where
  ws : List Int
  f : Nat → Int × Int
  F : Nat → List Int
  cs : Nat → Bool
structure Hp (w : World) (B : Nat) (s : Hs) (d : Hd_) : Prop where
  words : Row w B s.w.a s.w.n d.ws
  pages : Cl.PRow w B s.p.a s.p.n d.f
  free : Ls.L3 w B s.u d.F
  cards : BRow w B s.c.a s.c.n d.cs
theorem Hp.below {w w' : World} {B : Nat} {s : Hs} {d : Hd_} (h : Hp w B s d) (hb : Below B w w') : Hp w' B s d := ⟨h.words.below hb, h.pages.below hb, h.free.below hb, h.cards.below hb⟩
theorem Hp.more {w : World} {B C : Nat} {s : Hs} {d : Hd_} (h : Hp w B s d) (hB : B ≤ C) : Hp w C s d := ⟨h.words.more hB, h.pages.more hB, h.free.more hB, h.cards.more hB⟩
theorem Hp.next {w w' : World} {s : Hs} {d : Hd_} (h : Hp w w.heap.size s d) (hb : Below w.heap.size w w') : Hp w' w'.heap.size s d := (h.below hb).more hb.size
def lightB (u : Nat → Ls.Sl) : Bool := decide ((u 0).n ≤ 70 ∧ (u 1).n ≤ 70 ∧ (u 2).n ≤ 70)
theorem rlight_any (u : Nat → Ls.Sl) (w : World) : Calls Try.prog 18 #[(.agg #[.slice (u 0).a (u 0).n (u 0).c, .slice (u 1).a (u 1).n (u 1).c, .slice (u 2).a (u 2).n (u 2).c])] w fun e w' => e = .returned (.bool (lightB u)) ∧ Below w.heap.size w w' := by
  by_cases h0 : (u 0).n ≤ 70
  · have a0 : decide (((u 0).n : Int) ≤ 70) = true := by simp; omega
    by_cases h1 : (u 1).n ≤ 70
    · have a1 : decide (((u 1).n : Int) ≤ 70) = true := by simp; omega
      by_cases h2 : (u 2).n ≤ 70
      · have a2 : decide (((u 2).n : Int) ≤ 70) = true := by simp; omega
        have e : lightB u = true := decide_eq_true ⟨h0, h1, h2⟩
        rw [e]
        clear h0 h1 h2 e
        go_enter Try.func18, Try.ntmps18
        go_wp2
        go_ret
        exact ⟨rfl, (Below.refl _ _).alloc (Nat.le_refl _) _⟩
      · have a2 : decide (((u 2).n : Int) ≤ 70) = false := by simp; omega
        have e : lightB u = false := decide_eq_false (fun h => h2 h.2.2)
        rw [e]
        clear h0 h1 h2 e
        go_enter Try.func18, Try.ntmps18
        go_wp2
        go_ret
        exact ⟨rfl, (Below.refl _ _).alloc (Nat.le_refl _) _⟩
    · have a1 : decide (((u 1).n : Int) ≤ 70) = false := by simp; omega
      have e : lightB u = false := decide_eq_false (fun h => h1 h.2.1)
      rw [e]
      clear h0 h1 e
      go_enter Try.func18, Try.ntmps18
      go_wp2
      go_ret
      exact ⟨rfl, (Below.refl _ _).alloc (Nat.le_refl _) _⟩
  · have a0 : decide (((u 0).n : Int) ≤ 70) = false := by simp; omega
    have e : lightB u = false := decide_eq_false (fun h => h0 h.1)
    rw [e]
    clear h0 e
    go_enter Try.func18, Try.ntmps18
    go_wp2
    go_ret
    exact ⟨rfl, (Below.refl _ _).alloc (Nat.le_refl _) _⟩
def fewH (s : Hs) : Bool := decide (s.w.n ≤ 130) && (decide (s.p.n ≤ 9) && (decide (s.c.n ≤ 20) && lightB s.u))
end Go.Proofs.Ytjppimabhefeeaa
