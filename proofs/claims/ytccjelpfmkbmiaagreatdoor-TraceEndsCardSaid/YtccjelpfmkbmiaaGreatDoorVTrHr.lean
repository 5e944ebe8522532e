/-
  A drawn region that lays a head.
-/
import Derived.Test.YtccjelpfmkbmiaaGreatDoorHpVJ
import Derived.Test.YtccjelpfmkbmiaaGreatDoorHpVL
namespace Go.Proofs.YtccjelpfmkbmiaaGreatDoor.Tr
open Go.Proofs.YtccjelpfmkbmiaaGreatDoor Go.Proofs.YtccjelpfmkbmiaaGreatDoor.Rt
open Go.RowKit
open Go.Proofs.YtccjelpfmkbmiaaGreatDoor.Mu (hv kv w_load w_store w_loadg ldHb ldKb stHb stKb st_int ld_int p_load p_store ev region_plan noHs0 noK0)
open Go.Proofs.YtccjelpfmkbmiaaGreatDoor.Ha (region_planK pl_full putD w_skip)
set_option maxRecDepth 100000

theorem infX : (Tryz.prog.info? 53).map (·.size) = some 6 := by kernel_rfl
def zX : List Value := [.bool false, .bool false, .bool false, .int .i64 0, .int .i64 0, .int .i64 0]
structure Hr (w0 : World) (VS : List Value) (ia is : Nat) (x : Nat) (l : Nat → Bool) (W : World) : Prop where
  bel : Below w0.heap.size w0 W
  box : l ia = true → w0.heap.size ≤ x ∧ Box W x (sel (l is) VS zX)
  k : l is = true → l ia = true
section
variable {w0 W W' : World} {VS : List Value} {ia is x q : Nat} {l : Nat → Bool}
theorem hr_start (w0 : World) (VS : List Value) (ia is x : Nat) : Hr w0 VS ia is x (fun _ => false) w0.drew := ⟨⟨rfl, rfl, rfl, Nat.le_refl _, fun _ _ => rfl⟩, fun e => (by cases e), fun e => (by cases e)⟩
theorem Hr.next (h : Hr w0 VS ia is x l W) (hb : Below W.heap.size W W') : Hr w0 VS ia is x l W' := ⟨h.bel.trans (hb.mono h.bel.size), fun e => ⟨(h.box e).1, (h.box e).2.next hb⟩, h.k⟩
theorem Hr.pure (h : Hr w0 VS ia is x l W) (h1 : ¬ q = ia) (h2 : ¬ q = is) : Hr w0 VS ia is x (Ls.upd l q true) W :=
  ⟨h.bel, by rw [Ls.upd_other _ _ (fun e => h1 e.symm), Ls.upd_other _ _ (fun e => h2 e.symm)]; exact h.box, by rw [Ls.upd_other _ _ (fun e => h1 e.symm), Ls.upd_other _ _ (fun e => h2 e.symm)]; exact h.k⟩
theorem Hr.lay (h : Hr w0 VS ia is x l W) (hl : l ia = false) (hne : ¬ is = ia := by decide) : Hr w0 VS ia is W.heap.size (Ls.upd l ia true) (W.alloc (.cells zX.toArray 53)) := by
  have hs : l is = false := nt fun e => by rw [h.k e] at hl; cases hl
  refine ⟨h.bel.alloc h.bel.size _, fun _ => ⟨h.bel.size, ?_⟩, fun _ => upd_same _ _⟩
  rw [Ls.upd_other _ _ hne, hs]
  exact Box.new W zX _
theorem Hr.box0 (h : Hr w0 VS ia is x l W) (ha : l ia = true) (hs : l is = false) : Box W x zX := by
  have := (h.box ha).2
  rw [hs] at this
  exact this
theorem Hr.run (h : Hr w0 VS ia is x l W) (ha : l ia = true) (hs : l is = false) (hv : VS.length = 6) (h1 : VS.toArray.all (·.oneCell') = true := by kernel_rfl) : (Instr.storeAt 53 (.pointer (some ⟨x, 0, none⟩)) (.agg VS.toArray)).run Tryz.prog W = .ok () (puts x 0 VS W) :=
  Mu.st (h.box0 ha hs) (by rw [hv]; exact Nat.le_refl 6) _ (by rw [hv]; exact infX) h1
theorem Hr.put (h : Hr w0 VS ia is x l W) (ha : l ia = true) (hs : l is = false) (hv : VS.length = 6) (hne : ¬ ia = is := by decide) : Hr w0 VS ia is x (Ls.upd l is true) (puts x 0 VS W) := by
  have hb := Mu.box_all (us := VS) (h.box0 ha hs) (by rw [hv]; rfl)
  refine ⟨below_puts x (h.box ha).1 VS 0 _ h.bel, fun _ => ⟨(h.box ha).1, ?_⟩, fun _ => by rw [Ls.upd_other _ _ hne]; exact ha⟩
  rw [upd_same]
  exact hb
theorem Hr.done (h : Hr w0 VS ia is x l W) (ha : l ia = true) (hs : l is = true) : Below w0.heap.size w0 W ∧ w0.heap.size ≤ x ∧ Box W x VS := by
  have hb := (h.box ha).2
  rw [hs] at hb
  exact ⟨h.bel, (h.box ha).1, hb⟩
end
end Go.Proofs.YtccjelpfmkbmiaaGreatDoor.Tr
