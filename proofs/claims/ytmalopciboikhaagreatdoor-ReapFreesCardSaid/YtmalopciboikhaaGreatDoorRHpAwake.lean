/-
  The chapter's example of package heap, as every statement of the stage asks it first.
-/
import Derived.Test.YtmalopciboikhaaGreatDoorHpRG
import Derived.Deep.CutRange
namespace Go.Proofs.YtmalopciboikhaaGreatDoor
open Go.RowKit
set_option maxRecDepth 100000

theorem make_ints (n : Nat) (h : n ≤ 1000) (w : World) : (Instr.makeSlice 22 (.int .i64 (n : Int)) (.int .i64 (n : Int))).run Tryz.prog w = .ok (.slice (some ⟨w.heap.size, 0, none⟩) n n) (w.alloc (.cells (madeCells #[.int .i64 0] n) 3)) := by
  obtain ⟨i0, hi, hz0, hz1, hz2⟩ := info_parts Ls.info_int1
  have := run_make (P := Tryz.prog) w 22 3 i0 _ Tryz.underlying22 hi hz0 .i64 .i64 n n (by omega) (Int.le_refl _) (by rw [hz2]; omega) (by omega)
  rw [hz1] at this
  simpa [Value.cells] using this
def sM (g gp gc : Nat) : Hs := ⟨⟨some ⟨g, 0, none⟩, 16, 16⟩, ⟨some ⟨gp, 0, none⟩, 1, 1⟩, Ls.noSl, ⟨some ⟨gc, 0, none⟩, 2, 2⟩⟩
def wsM : List Int := [0, 0, 0, 0, 0, 0, 0, 0, 41, 0, 0, 0, 0, 0, 0, 0]
theorem wsM_at : ∀ i, i < 16 → wsM.getD i 0 = if i = 8 then 41 else 0 := by decide
theorem rep0 (n i : Nat) : (List.replicate n (0 : Int)).getD i 0 = 0 := by by_cases h : i < n <;> simp [List.getD, h]
def dM : Hd_ := ⟨wsM, fun _ => (1, 2), Ls.noLists, fun _ => false⟩
/-- What the example's heap lies in. -/
structure AwM (w wc : World) (b g gp gc : Nat) : Prop where
  hb : wc.heap[b]? = some (.cells #[.slice (some ⟨g, 0, none⟩) 16 16, .slice (some ⟨gp, 0, none⟩) 1 1, .slice none 0 0, .slice none 0 0, .slice none 0 0, .slice (some ⟨gc, 0, none⟩) 2 2] 28)
  hg : wc.heap[g]? = some (.cells (madeCells #[.int .i64 0] 16) 3)
  hp : wc.heap[gp]? = some (.cells #[.int .i64 1, .int .i64 2] 76)
  hc : wc.heap[gc]? = some (zBools 2)
  ap : ¬ g = gp ∧ ¬ g = gc ∧ ¬ g = b
  old : w.heap.size ≤ g
  bel : Below w.heap.size w wc
theorem four (W : World) (o1 o2 o3 o4 : Obj) : ((((W.alloc o1).alloc o2).alloc o3).alloc o4).heap[W.heap.size]? = some o1 ∧ ((((W.alloc o1).alloc o2).alloc o3).alloc o4).heap[W.heap.size + 1]? = some o2 ∧
    ((((W.alloc o1).alloc o2).alloc o3).alloc o4).heap[W.heap.size + 1 + 1]? = some o3 ∧ ((((W.alloc o1).alloc o2).alloc o3).alloc o4).heap[W.heap.size + 1 + 1 + 1]? = some o4 := by
  refine ⟨?_, ?_, ?_, ?_⟩
  · rw [Below.heap_alloc _ _ _ (by simp only [World.size_alloc]; omega), Below.heap_alloc _ _ _ (by simp only [World.size_alloc]; omega), Below.heap_alloc _ _ _ (by simp only [World.size_alloc]; omega)]
    exact World.alloc_heap_new W o1
  · rw [Below.heap_alloc _ _ _ (by simp only [World.size_alloc]; omega), Below.heap_alloc _ _ _ (by simp only [World.size_alloc]; omega)]
    have := World.alloc_heap_new (W.alloc o1) o2
    rwa [World.size_alloc] at this
  · rw [Below.heap_alloc _ _ _ (by simp)]
    have := World.alloc_heap_new ((W.alloc o1).alloc o2) o3
    rwa [World.size_alloc, World.size_alloc] at this
  · have := World.alloc_heap_new (((W.alloc o1).alloc o2).alloc o3) o4
    rwa [World.size_alloc, World.size_alloc, World.size_alloc] at this
theorem four_below (W : World) (o1 o2 o3 o4 : Obj) (q : Nat) : Below W.heap.size W (((((W.alloc o1).alloc o2).alloc o3).alloc o4).drewN q) :=
  below_drawn' (((((Below.refl _ _).alloc (Nat.le_refl _) o1).alloc (by simp) o2).alloc (by simp; omega) o3).alloc (by simp; omega) o4) q
theorem aw_box {w wc : World} {b g gp gc : Nat} (h : AwM w wc b g gp gc) : HBox wc b (sM g gp gc) := by
  have := h.hb
  exact ⟨by simp [World.cell?, this, sM], by simp [World.cell?, this, sM], by simp [World.cell?, this, sM, Ls.noSl], by simp [World.cell?, this, sM, Ls.noSl], by simp [World.cell?, this, sM, Ls.noSl], by simp [World.cell?, this, sM], (Array.getElem?_eq_some_iff.1 this).1⟩
theorem aw_word {w wc : World} {b g gp gc : Nat} (h : AwM w wc b g gp gc) : wc.cell? ⟨g, 8, none⟩ = some (.int .i64 0) ∧ wc.frozen? ⟨g, 8, none⟩ = false ∧ g < wc.heap.size := by
  have := h.hg
  exact ⟨by simp [World.cell?, this, madeCells], by simp [World.frozen?, this], (Array.getElem?_eq_some_iff.1 this).1⟩
theorem aw_store {w wc : World} {b g gp gc : Nat} (h : AwM w wc b g gp gc) :
    HBox (wc.setCell ⟨g, 8, none⟩ (.int .i64 41)) b (sM g gp gc) ∧ Hp (wc.setCell ⟨g, 8, none⟩ (.int .i64 41)) (wc.setCell ⟨g, 8, none⟩ (.int .i64 41)).heap.size (sM g gp gc) dM ∧ Below w.heap.size w (wc.setCell ⟨g, 8, none⟩ (.int .i64 41)) := by
  have hs : ∀ k, ¬ k = g → (wc.setCell ⟨g, 8, none⟩ (.int .i64 41)).heap[k]? = wc.heap[k]? := fun k hk => Below.heap_setCell _ _ _ _ hk
  have hz : (wc.setCell ⟨g, 8, none⟩ (.int .i64 41)).heap.size = wc.heap.size := by simp [World.setCell]
  obtain ⟨a1, a2, a3⟩ := h.ap
  refine ⟨(aw_box h).same (hs b (fun e => a3 e.symm)) (by rw [hz]; exact Nat.le_refl _), ⟨⟨rfl, fun _ => ⟨g, 0, rfl, by rw [hz]; exact (aw_word h).2.2, fun i hi => ?_⟩⟩, fun _ => ⟨gp, 0, rfl, by rw [hz]; exact (Array.getElem?_eq_some_iff.1 h.hp).1, fun i hi => ?_⟩, Ls.L3.none_ _ _, fun _ => ⟨gc, 0, rfl, by rw [hz]; exact (Array.getElem?_eq_some_iff.1 h.hc).1, fun i hi => ?_⟩⟩, h.bel.setCell (p := ⟨g, 8, none⟩) h.old _⟩
  · have hi' : i < 16 := hi
    by_cases e : i = 8
    · subst e
      have := World.cell?_setCell_same' wc ⟨g, 8, none⟩ (.int .i64 41) (by rw [(aw_word h).1]; rfl)
      simpa [dM, wsM] using this
    · rw [World.cell?_setCell_other _ _ _ _ (by intro hh; simp only [Addr.mk.injEq, true_and, and_true] at hh; omega)]
      have h2 : wc.cell? ⟨g, 0 + i, none⟩ = some (.int .i64 0) := by simp [World.cell?, h.hg, madeCells, hi', Nat.mod_one]
      rw [h2]
      have : wsM.getD i 0 = 0 := by rw [wsM_at i hi', if_neg e]
      show _ = some (Value.int .i64 (wsM.getD i 0))
      rw [this]
  · obtain rfl : i = 0 := by have : i < 1 := hi; omega
    constructor
    · rw [World.cell?_of_block (a := ⟨gp, 0 + 0 * 2, none⟩) (hs gp (fun e => a1 e.symm))]
      simp [World.cell?, h.hp, dM]
    · rw [World.cell?_of_block (a := ⟨gp, 0 + 0 * 2 + 1, none⟩) (hs gp (fun e => a1 e.symm))]
      simp [World.cell?, h.hp, dM]
  · have hi' : i < 2 := hi
    rw [World.cell?_of_block (a := ⟨gc, 0 + i, none⟩) (hs gc (fun e => a2 e.symm))]
    simp [World.cell?, h.hc, zBools, madeCells, hi', Nat.mod_one, dM]
def dZ : Hd_ := ⟨List.replicate 32 0, fun _ => (0, 0), Ls.noLists, fun _ => false⟩
def dK : Hd_ := ⟨wsM, fun _ => (1, 2), fun j => if j = 2 then [16] else [], fun _ => false⟩
def sK (g gp gc l : Nat) : Hs := ⟨⟨some ⟨g, 0, none⟩, 16, 16⟩, ⟨some ⟨gp, 0, none⟩, 1, 1⟩, (fun j => if j = 2 then ⟨some ⟨l, 0, none⟩, 1, 1⟩ else ⟨none, 0, 0⟩), ⟨some ⟨gc, 0, none⟩, 2, 2⟩⟩
theorem fine_M (g gp gc : Nat) : Fine (sM g gp gc) dM := by
  refine ⟨by show (16 : Nat) ≤ 4000; omega, by show (1 : Nat) ≤ 200; omega, by show (2 : Nat) ≤ 100000; omega, fun i => ?_, by decide⟩
  show -9223372036854775808 ≤ wsM.getD i 0 ∧ wsM.getD i 0 ≤ 9223372036854775807
  have : wsM.getD i 0 = 0 ∨ wsM.getD i 0 = 41 := by
    by_cases h : i < 16
    · rw [wsM_at i h]
      split <;> simp
    · left
      simp [List.getD, List.getElem?_eq_none (show wsM.length ≤ i from by show 16 ≤ i; omega)]
  omega
theorem fine_K (g gp gc l : Nat) : Fine (sK g gp gc l) dK := ⟨by show (16 : Nat) ≤ 4000; omega, by show (1 : Nat) ≤ 200; omega, by show (2 : Nat) ≤ 100000; omega, (fine_M g gp gc).hv, by decide⟩
/-- What the example holds: three heaps in their boxes, a head. -/
structure Six (w : World) (b1 b bk bx : Nat) (s1 s3 sk : Hs) (W : World) : Prop where
  h : HBox W b1 s1
  m : HBox W b s3
  k : HBox W bk sk
  ph : Hp W W.heap.size s1 dZ
  pm : Hp W W.heap.size s3 dM
  pk : Hp W W.heap.size sk dK
  n : W.cell? ⟨bx, 3, none⟩ = some (.int .i64 5)
  nl : bx < W.heap.size
  bel : Below w.heap.size w W
theorem Six.next {w W W' : World} {b1 b bk bx : Nat} {s1 s3 sk : Hs} (h : Six w b1 b bk bx s1 s3 sk W) (hb : Below W.heap.size W W') (h0 : w.heap.size ≤ W.heap.size) : Six w b1 b bk bx s1 s3 sk W' :=
  ⟨h.h.next hb, h.m.next hb, h.k.next hb, h.ph.next hb, h.pm.next hb, h.pk.next hb, (hb.cell (p := ⟨bx, 3, none⟩) h.nl).trans h.n, Nat.lt_of_lt_of_le h.nl hb.size, h.bel.trans (hb.mono h0)⟩
theorem pwhole0_any (s : Hs) (d : Hd_) (w : World) (hp : Hp w w.heap.size s d) (hz : Cl.Sz w) (hf : Fine s d) :
    Calls Tryz.prog 37 #[(.agg #[.slice s.w.a s.w.n s.w.c, .slice s.p.a s.p.n s.p.c, .slice (s.u 0).a (s.u 0).n (s.u 0).c, .slice (s.u 1).a (s.u 1).n (s.u 1).c, .slice (s.u 2).a (s.u 2).n (s.u 2).c, .slice s.c.a s.c.n s.c.c]), .slice none 0 0] w fun e w' => e = .returned (.bool (wholeH s d 0 noCaches)) ∧ Below w.heap.size w w' := by
  obtain ⟨U, hU⟩ := lrow_none w w.heap.size
  refine pwhole_any s d none 0 0 U noCaches w hp hU (by omega) hz hf ?_
  rw [show Ls.allOf (ahead d.F noCaches) (1 + 0) = Ls.upTo d.F 3 by simp [Ls.allOf, ahead]]
  exact hf.len
end Go.Proofs.YtmalopciboikhaaGreatDoor
