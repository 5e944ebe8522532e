/-
  Package fresh's Lists: lists with memory of their own.
-/
import Derived.Test.YtjppimabhefeeaaGreatDoorHpOA
import Derived.Test.YtjppimabhefeeaaGreatDoorHpOF
namespace Go.Proofs.YtjppimabhefeeaaGreatDoor.Ls
open Go.Proofs.YtjppimabhefeeaaGreatDoor
open Go.RowKit
set_option maxRecDepth 100000

structure AOwn (w wr : World) (f : Nat → List Int) (k : Nat) (v : Nat → Sl) : Prop where
  box : Box3 wr w.heap.size v
  res : Box3 wr (w.heap.size + 1) noSl
  own : OwnTo wr (w.heap.size + 2) k v f
  bel : Below w.heap.size w wr
theorem AOwn.size {w wr : World} {v : Nat → Sl} {f : Nat → List Int} {k : Nat} (h : AOwn w wr f k v) : w.heap.size + 2 ≤ wr.heap.size := by have := h.res.lt; omega
theorem AOwn.step {w wr w1 w2 : World} {v : Nat → Sl} {f : Nat → List Int} {k : Nat} (h : AOwn w wr f k v) (hk : k < 3) (s : Sl)
    (ho : w1.ownsRow wr.heap.size 3 1 (.slice s.a s.n s.c) s.n ((f k).map (Value.int .i64))) (b1 : Below wr.heap.size wr w1) (e2 : w2 = w1.setCell ⟨w.heap.size, k, none⟩ (.slice s.a s.n s.c)) : AOwn w w2 f (k + 1) (upd v k s) := by
  have hs := h.size
  subst e2
  refine ⟨(h.box.next b1).set hk s, (h.res.next b1).other (by simp) _, ?_, (h.bel.trans (b1.mono h.bel.size)).setCell (p := ⟨w.heap.size, k, none⟩) (by simp) _⟩
  refine h.own.step hs s (World.ownsRow.same ho (fun g hg' _ => Below.heap_setCell _ _ _ _ ?_)) (fun j hj hlt => (Below.heap_setCell _ _ _ _ (by show ¬ j = w.heap.size; omega)).trans (b1.block j hlt))
  have := (ho.lt g hg').1
  show ¬ g = w.heap.size
  omega
theorem aown_any (B : Nat) (u : Nat → Sl) (f : Nat → List Int) (w : World) (h : L3 w B u f) (hB : B ≤ w.heap.size) (hn : ∀ j, j < 3 → (u j).n ≤ 2000000) :
    Calls Tryz.prog 32 #[(.agg #[.slice (u 0).a (u 0).n (u 0).c, .slice (u 1).a (u 1).n (u 1).c, .slice (u 2).a (u 2).n (u 2).c])] w (COut w f) := by
  have C4 := Lib.hid (fun j (hj : j < 3) W (hb : Below w.heap.size w W) => iclone_any B (u j).a (u j).n (u j).c (f j) W (hn j hj) (Nat.le_trans hB hb.size) ((h j hj).1.over hb hB))
  clear h hn
  go_enter Tryz.func32, Tryz.ntmps32
  go_wp2
  go_loopw [6] (fun i wr => ∃ (k : Nat) (v : Nat → Sl), k ≤ 3 ∧ i = .int .i64 k ∧ Hid (AOwn w wr f k v)) (fun i _ => 3 - (intOf i).toNat)
  case atStart =>
    refine ⟨0, u, by omega, rfl, Lib.hid ⟨(Box3.new w u 25).alloc _, ?_, OwnTo.start _ _ _ _, ((Below.refl _ _).alloc (Nat.le_refl _) _).alloc (by simp) _⟩⟩
    have := Box3.new (w.alloc (.cells #[.slice (u 0).a (u 0).n (u 0).c, .slice (u 1).a (u 1).n (u 1).c, .slice (u 2).a (u 2).n (u 2).c] 25)) noSl 25
    rw [World.size_alloc] at this
    exact this
  case round =>
    obtain ⟨k, v, hk, rfl, HC⟩ := hrel
    by_cases hlt : k < 3
    · have hix := index_of u k hlt
      go_wp2_with fail
      refine (C4.out k hlt _ HC.out.bel).mono ?_
      rintro e w1 ⟨s, rfl, ho, hb1⟩
      have hB1 := HC.out.box.next hb1
      have hc1 := hB1.cell k hlt
      have hf1 := hB1.free k
      have hl1 := hB1.lt
      have S1 := Lib.hid (HC.out.step hlt s ho hb1 rfl)
      clear ho hb1 hB1
      go_wp2
      go_roundw
      case rel => exact ⟨k + 1, _, by omega, by go_num, S1⟩
      case measure => simp [intOf]; omega
    · obtain rfl : k = 3 := by omega
      have r0 := HC.out.box.cell 0 (by decide)
      have r1 := HC.out.box.cell 1 (by decide)
      have r2 := HC.out.box.cell 2 (by decide)
      have rl := HC.out.box.lt
      have x0 := HC.out.res.cell 0 (by decide)
      have x1 := HC.out.res.cell 1 (by decide)
      have x2 := HC.out.res.cell 2 (by decide)
      have y0 := HC.out.res.free 0
      have y1 := HC.out.res.free 1
      have y2 := HC.out.res.free 2
      have xl := HC.out.res.lt
      go_wp2
      refine bodyPost_ret (v := (.agg #[.slice (v 0).a (v 0).n (v 0).c, .slice (v 1).a (v 1).n (v 1).c, .slice (v 2).a (v 2).n (v 2).c])) ?_ rfl ⟨v, rfl, (HC.out.own.own3.put (b := w.heap.size + 1) (fun j x hj hx => by have := (HC.out.own.own3.block j hj hx).1; omega) v).less (by omega), below_put3 HC.out.bel (by omega) v⟩
      simp [results, Tryz.results32, go_sem, x0, x1, x2]
end Go.Proofs.YtjppimabhefeeaaGreatDoor.Ls
