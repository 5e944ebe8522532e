/-
  The reference's Own: lists with memory of their own.
-/
import Derived.Test.YtjppimabhefeeaaLsCat
namespace Go.Proofs.Ytjppimabhefeeaa.Ls
open Go.Proofs.Ytjppimabhefeeaa
set_option maxRecDepth 100000
open Go.RowKit

structure Owning (w wr : World) (u : Nat → Sl) (f : Nat → List Int) (k : Nat) (v : Nat → Sl) : Prop where
  src : Box3 wr w.heap.size u
  res : Box3 wr (w.heap.size + 1) noSl
  box : Box3 wr (w.heap.size + 2) v
  own : OwnTo wr (w.heap.size + 3) k v f
  bel : Below w.heap.size w wr
theorem Owning.size {w wr : World} {u v : Nat → Sl} {f : Nat → List Int} {k : Nat} (h : Owning w wr u f k v) : w.heap.size + 3 ≤ wr.heap.size := by have := h.box.lt; omega
theorem Owning.step {w wr w1 w2 : World} {u v : Nat → Sl} {f : Nat → List Int} {k : Nat} (h : Owning w wr u f k v) (hk : k < 3) (s : Sl)
    (ho : w1.ownsRow wr.heap.size 3 1 (.slice s.a s.n s.c) s.n ((f k).map (Value.int .i64))) (hg : wr.grownBy w1 none) (e2 : w2 = w1.setCell ⟨w.heap.size + 2, k, none⟩ (.slice s.a s.n s.c)) : Owning w w2 u f (k + 1) (upd v k s) := by
  have hs := h.size
  have b1 : Below wr.heap.size wr w1 := (Below.refl _ _).grown hg (Nat.le_refl _) (by intro j hj; cases hj)
  subst e2
  refine ⟨(h.src.next b1).other (by simp) _, (h.res.next b1).other (by simp) _, (h.box.next b1).set hk s, ?_, (h.bel.trans (b1.mono h.bel.size)).setCell (p := ⟨w.heap.size + 2, k, none⟩) (by simp) _⟩
  refine h.own.step hs s (World.ownsRow.same ho (fun g hg' _ => Below.heap_setCell _ _ _ _ ?_)) (fun j hj hlt => (Below.heap_setCell _ _ _ _ (by show ¬ j = w.heap.size + 2; omega)).trans (b1.block j hlt))
  have := (ho.lt g hg').1
  show ¬ g = w.heap.size + 2
  omega

theorem rown_any (B : Nat) (u : Nat → Sl) (f : Nat → List Int) (w : World) (h : L3 w B u f) (hB : B ≤ w.heap.size) (hn : ∀ j, j < 3 → (u j).n ≤ 2000000) :
    Calls Try.prog 19 #[(.agg #[.slice (u 0).a (u 0).n (u 0).c, .slice (u 1).a (u 1).n (u 1).c, .slice (u 2).a (u 2).n (u 2).c])] w (COut w f) := by
  have HL := Lib.hid h
  have HN := Lib.hid hn
  clear h hn
  go_enter Try.func19, Try.ntmps19
  go_wp2
  go_loopw [4] (fun i wr => ∃ (k : Nat) (v : Nat → Sl), k ≤ 3 ∧ i = .int .i64 k ∧ Hid (Owning w wr u f k v)) (fun i _ => 3 - (intOf i).toNat)
  case atStart =>
    refine ⟨0, noSl, by omega, rfl, Lib.hid ⟨((Box3.new w u 25).alloc _).alloc _, ?_, ?_, OwnTo.start _ _ _ _, (((Below.refl _ _).alloc (Nat.le_refl _) _).alloc (by simp) _).alloc (by simp; omega) _⟩⟩
    · have := (Box3.new (w.alloc (.cells #[.slice (u 0).a (u 0).n (u 0).c, .slice (u 1).a (u 1).n (u 1).c, .slice (u 2).a (u 2).n (u 2).c] 25)) noSl 25).alloc (.cells #[.slice (noSl 0).a (noSl 0).n (noSl 0).c, .slice (noSl 1).a (noSl 1).n (noSl 1).c, .slice (noSl 2).a (noSl 2).n (noSl 2).c] 25)
      rw [World.size_alloc] at this
      exact this
    · have := Box3.new ((w.alloc (.cells #[.slice (u 0).a (u 0).n (u 0).c, .slice (u 1).a (u 1).n (u 1).c, .slice (u 2).a (u 2).n (u 2).c] 25)).alloc (.cells #[.slice (noSl 0).a (noSl 0).n (noSl 0).c, .slice (noSl 1).a (noSl 1).n (noSl 1).c, .slice (noSl 2).a (noSl 2).n (noSl 2).c] 25)) noSl 25
      rw [World.size_alloc, World.size_alloc] at this
      exact this
  case round =>
    obtain ⟨k, v, hk, rfl, HC⟩ := hrel
    by_cases hlt : k < 3
    · have hs0 := HC.out.src.cell k hlt
      have hnk := HN.out k hlt
      have hl0 := HC.out.src.lt
      go_wp2_with (at_builtin; refine list_cloned rfl _ _ rfl rfl rfl ((HL.out k hlt).1.over HC.out.bel hB) hnk ?_)
      intro p' cp' w1 hc
      have ho := hc.own
      have hg : wr.grownBy w1 none := hc.grown
      have hb1 := HC.out.box.grown hg (by simp)
      have hc1 := hb1.cell k hlt
      have hf1 := hb1.free k
      have hl1 := hb1.lt
      have S1 := Lib.hid (HC.out.step hlt ⟨p', (u k).n, cp'⟩ ho hg rfl)
      clear ho hg hb1 hc
      go_wp2
      go_roundw
      case rel => exact ⟨k + 1, _, by omega, by go_num, S1⟩
      case measure => simp [intOf]; omega
    · obtain rfl : k = 3 := by omega
      have r0 := HC.out.box.cell 0 (by decide)
      have r1 := HC.out.box.cell 1 (by decide)
      have r2 := HC.out.box.cell 2 (by decide)
      have rl := HC.out.box.lt
      have x0 := HC.out.res.cell 0 (by decide)
      have x1 := HC.out.res.cell 1 (by decide)
      have x2 := HC.out.res.cell 2 (by decide)
      have y0 := HC.out.res.free 0
      have y1 := HC.out.res.free 1
      have y2 := HC.out.res.free 2
      have xl := HC.out.res.lt
      go_wp2
      refine bodyPost_ret (v := (.agg #[.slice (v 0).a (v 0).n (v 0).c, .slice (v 1).a (v 1).n (v 1).c, .slice (v 2).a (v 2).n (v 2).c])) ?_ rfl ⟨v, rfl, (HC.out.own.own3.put (b := w.heap.size + 1) (fun j x hj hx => by have := (HC.out.own.own3.block j hj hx).1; omega) v).less (by omega), below_put3 HC.out.bel (by omega) v⟩
      simp [results, Try.results19, go_sem, x0, x1, x2]
end Go.Proofs.Ytjppimabhefeeaa.Ls
