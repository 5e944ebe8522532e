/-
  The chapter's example.
-/
import Derived.Test.YtggjkagcnhhkjaaDoorCdParse
import Derived.Test.YtggjkagcnhhkjaaDoorCdSame
namespace Go.Proofs.YtggjkagcnhhkjaaDoor.Cd
open Go.Proofs.YtggjkagcnhhkjaaDoor Go.Proofs.YtggjkagcnhhkjaaDoor.Rt
open Go.RowKit
set_option maxRecDepth 100000

def exB : List UInt8 := [110, 48, 44, 51, 32, 226, 134, 144, 48, 44, 49, 44, 50, 32, 195, 151]
def exL : List O4 := [⟨0, 0, 3, 0⟩, ⟨2, 0, 1, 2⟩, ⟨6, 0, 0, 0⟩]
theorem ex_good : Good exL exB := by
  refine ⟨?_, by decide, by rfl⟩
  intro x hx
  simp only [exL, List.mem_cons, List.not_mem_nil, or_false] at hx
  rcases hx with rfl | rfl | rfl <;> decide
theorem lit_row {w : World} (B : Nat) (h : Box w B (opc ⟨0, 0, 3, 0⟩ ++ (opc ⟨2, 0, 1, 2⟩ ++ opc ⟨6, 0, 0, 0⟩))) : ORow w w.heap.size (some ⟨B, 0, none⟩) exL.length (gl exL) := by
  intro _
  refine ⟨B, 0, rfl, h.lt, fun i hi => ?_⟩
  have hi' : i < 3 := hi
  rcases (show i = 0 ∨ i = 1 ∨ i = 2 by omega) with rfl | rfl | rfl
  · exact ⟨h.cel 0 _ rfl, h.cel 1 _ rfl, h.cel 2 _ rfl, h.cel 3 _ rfl⟩
  · exact ⟨h.cel 4 _ rfl, h.cel 5 _ rfl, h.cel 6 _ rfl, h.cel 7 _ rfl⟩
  · exact ⟨h.cel 8 _ rfl, h.cel 9 _ rfl, h.cel 10 _ rfl, h.cel 11 _ rfl⟩
theorem awake_any (w : World) (hT : Tb w) : Calls Tryd.prog 9 #[] w fun e w' => e = .returned (.bool true) ∧ Below w.heap.size w w' := by
  have HT := Lib.hid hT
  clear hT
  go_enter Tryd.func9, Tryd.ntmps9
  go_wp2_with fail
  refine (parse_any exB w (by decide) HT.out).mono ?_
  rintro e w1 ⟨hb1, (⟨l, v, hg, rfl, hrd⟩ | ⟨he, hno⟩)⟩
  · obtain rfl : exL = l := ex_good.one hg
    have HB1 := Lib.hid (And.intro hb1 hrd)
    clear hb1 hg hrd
    have hvn : v.n = 3 := HB1.out.2.1
    go_wp2_with fail
    have HY := Box.new w1 (opc ⟨0, 0, 3, 0⟩ ++ (opc ⟨2, 0, 1, 2⟩ ++ opc ⟨6, 0, 0, 0⟩)) 28
    have hr1 := HB1.out.2.2.1
    rw [hvn] at hr1
    have hal : Below w1.heap.size w1 (w1.alloc (.cells (opc ⟨0, 0, 3, 0⟩ ++ (opc ⟨2, 0, 1, 2⟩ ++ opc ⟨6, 0, 0, 0⟩)).toArray 28)) := (Below.refl _ _).alloc (Nat.le_refl _) _
    refine (rsame_any v.a (some ⟨w1.heap.size, 0, none⟩) exL exL v.c 3 _ (by show (3 : Nat) ≤ maxLen; unfold maxLen; omega) (hr1.next hal) (lit_row _ HY)).mono ?_
    rintro e w2 ⟨rfl, hb2⟩
    have hs : sameB exL exL = true := decide_eq_true rfl
    rw [hs]
    have HB2 := Lib.hid ((HB1.out.1.alloc HB1.out.1.size _).trans (hb2.mono (by have := HB1.out.1.size; simp; omega)))
    clear hb2 HY hr1 hal
    go_wp2
    go_ret
    exact ⟨rfl, HB2.out⟩
  · exact absurd ex_good (hno _)
end Go.Proofs.YtggjkagcnhhkjaaDoor.Cd
