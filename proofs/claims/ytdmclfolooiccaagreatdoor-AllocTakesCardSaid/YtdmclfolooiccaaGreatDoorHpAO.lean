/-
  Merged texts: AlSmall, AlTk.
-/
import Derived.Test.YtdmclfolooiccaaGreatDoorAAlFill
import Derived.Test.YtdmclfolooiccaaGreatDoorHpAN
section
namespace Go.Proofs.YtdmclfolooiccaaGreatDoor
open Go.RowKit
set_option maxRecDepth 100000

/-- A cell was taken. -/
def Popped (b : Nat) (w : World) (t : Hs) (d' : Hd_) (G' : Nat → List Int) (a : Int) (e : Ending) (w' : World) : Prop :=
  e = .returned (.tuple #[.int .i64 a, .int .i64 0]) ∧ (∃ t' u', Sto w' b t' u' d' G' ∧ Same3 t t') ∧ Below b w w'
theorem small_end {o : Obj} {b : Nat} {w w6 : World} {t t' : Hs} {u x : Nat → Ls.Sl} {d : Hd_} {G G' : Nat → List Int} (h : Sto w6 b t' u d G) (hx : Ls.L3 w6 w6.heap.size x G') (h3 : Same3 t t') (hb : Below b w w6) :
    (∃ t' u', Sto ((((w6.setCell ⟨b, 6, none⟩ (.slice (x 0).a (x 0).n (x 0).c)).setCell ⟨b, 7, none⟩ (.slice (x 1).a (x 1).n (x 1).c)).setCell ⟨b, 8, none⟩ (.slice (x 2).a (x 2).n (x 2).c)).alloc o) b t' u' d G' ∧ Same3 t t') ∧
    Below b w ((((w6.setCell ⟨b, 6, none⟩ (.slice (x 0).a (x 0).n (x 0).c)).setCell ⟨b, 7, none⟩ (.slice (x 1).a (x 1).n (x 1).c)).setCell ⟨b, 8, none⟩ (.slice (x 2).a (x 2).n (x 2).c)).alloc o) := by
  have hlt := h.b9.box.lt
  refine ⟨⟨t', x, (h.turn (h.b9.cache3 x) set3_others (by simp only [set_size]) h.hp hx h.pc).next ((Below.refl _ _).alloc (Nat.le_refl _) o), h3⟩, ?_⟩
  exact (((hb.setCell (p := ⟨b, 6, none⟩) (Nat.le_refl _) _).setCell (p := ⟨b, 7, none⟩) (Nat.le_refl _) _).setCell (p := ⟨b, 8, none⟩) (Nat.le_refl _) _).alloc (by simp only [set_size]; omega) o
theorem pop_any (B : Nat) (u : Nat → Ls.Sl) (G : Nat → List Int) (k : Nat) (hk : k < 3) (w : World) (h : Ls.L3 w B u G) (hB : B ≤ w.heap.size) (hn : ∀ j, j < 3 → (u j).n ≤ 2000000) (h0 : 0 < (G k).length) :
    Calls Tryz.prog 87 #[(.agg #[.slice (u 0).a (u 0).n (u 0).c, .slice (u 1).a (u 1).n (u 1).c, .slice (u 2).a (u 2).n (u 2).c]), .int .i64 k] w (Ls.PopOut w (popG G k) (popA G k) 0) := by
  have hl := h.len k hk
  have := Ls.pop_ok B u G k hk ((G k).length - 1) w h hB hn (by omega)
  exact this
theorem fill_lens {w w' : World} {b n k : Nat} {t t' : Hs} {u u' : Nat → Ls.Sl} {d : Hd_} {G : Nat → List Int} {q : Hd_ × (Nat → List Int)} (hs : Sto w b t u d G) (h : fillO d n G k = some q) (hs' : Sto w' b t' u' q.1 q.2) (hn : ∀ j, j < 3 → (u j).n ≤ 1000000) : ∀ j, j < 3 → (u' j).n ≤ 2000000 := fun j hj => by
  have h1 := hs.l3.len j hj
  have h2 := hs'.l3.len j hj
  have h3 := hn j hj
  have key : ∀ F : Nat → List Int, (fillG F G k j).length ≤ (G j).length + 2 := fun F => by
    unfold fillG Ls.upd
    split
    · next e => subst e; rw [List.length_append, List.length_reverse, List.length_drop]; omega
    · omega
  unfold fillO at h
  split at h
  · cases h
    have := key d.F
    simp only at h2
    omega
  · split at h
    · next p _ =>
      cases h
      have := key (splitD d n k p).F
      simp only at h2
      omega
    · cases h
section
variable (b : Nat) (t : Hs) (u : Nat → Ls.Sl) (d : Hd_) (G : Nat → List Int) (w : World)
theorem small_has0 (hs : Sto w b t u d G) (hvn : ∀ j, j < 3 → (u j).n ≤ 2000000) (hG : 0 < (G 0).length) :
    Calls Tryz.prog 55 #[.pointer (some ⟨b, 0, none⟩), .int .i64 0] w (Popped b w t d (popG G 0) (popA G 0)) := by
  have hl := hs.l3.len 0 (by decide)
  have S3 := Lib.hid hs
  have UN := Lib.hid hvn
  have PN := Lib.hid hG
  have B3 := Lib.hid (Below.refl b w)
  have H3 : Hid (Same3 t t) := Lib.hid ⟨rfl, rfl, rfl⟩
  have dq : (((u 0).n : Int) == 0) = false := by simp; omega
  have q := hs.b9.k6
  have ql0 := hs.b9.box.lt
  clear hs hvn hG hl
  go_enter Tryz.func55, Tryz.ntmps55
  have q6 := S3.out.b9.k6
  have q7 := S3.out.b9.k7
  have q8 := S3.out.b9.k8
  have ql := S3.out.b9.box.lt
  have HC : Hid (Calls Tryz.prog 87 #[(.agg #[.slice (u 0).a (u 0).n (u 0).c, .slice (u 1).a (u 1).n (u 1).c, .slice (u 2).a (u 2).n (u 2).c]), .int .i64 0] w (Ls.PopOut w (popG G 0) (popA G 0) 0)) := Lib.hid (pop_any w.heap.size u G 0 (by decide) w S3.out.l3 (Nat.le_refl _) UN.out PN.out)
  go_wp2_with fail
  refine HC.out.mono ?_
  rintro e w6 ⟨v6, rfl, hl6, hb6⟩
  have S6 := S3.out.next hb6
  have r6 := S6.b9.k6
  have r7 := S6.b9.k7
  have r8 := S6.b9.k8
  have rl := S6.b9.box.lt
  have f6 := S6.b9.free 6
  have f7 := S6.b9.free 7
  have f8 := S6.b9.free 8
  have L6 := Lib.hid hl6
  have B6 := Lib.hid (B3.out.trans (hb6.mono (Nat.le_of_lt S3.out.b9.box.lt)))
  have S7 := Lib.hid S6
  clear hl6 hb6 S6 q6 q7 q8 ql
  go_wp2
  go_ret2
  exact ⟨rfl, small_end S7.out L6.out H3.out B6.out⟩
theorem small_no0 (hs : Sto w b t u d G) (hf : Fit t) (hG : (G 0).length = 0) (h : fillO d t.p.n G 0 = none) :
    Calls Tryz.prog 55 #[.pointer (some ⟨b, 0, none⟩), .int .i64 0] w fun e w' => e = .returned (.tuple #[.int .i64 0, .int .i64 4]) ∧ Below w.heap.size w w' := by
  have q := hs.b9.k6
  have ql0 := hs.b9.box.lt
  rw [show (u 0).n = 0 by have := hs.l3.len 0 (by decide); omega] at q
  have S3 := Lib.hid hs
  have HF' := Lib.hid hf
  have HN := Lib.hid h
  clear hs hG hf h
  go_enter Tryz.func55, Tryz.ntmps55
  go_wp2_with fail
  refine (fill_no b t u d G w 0 (by decide) S3.out HF'.out HN.out).mono ?_
  rintro e w1 ⟨rfl, hb1⟩
  go_wp2
  go_ret2
  exact ⟨rfl, hb1⟩
theorem small_fill0 (q : Hd_ × (Nat → List Int)) (hs : Sto w b t u d G) (hz : Cl.Sz w) (h0 : 0 < b) (hf : Fit t) (hun : ∀ j, j < 3 → (t.u j).n ≤ 1000000) (hvn : ∀ j, j < 3 → (u j).n ≤ 1000000) (hG : (G 0).length = 0) (h : fillO d t.p.n G 0 = some q) :
    Calls Tryz.prog 55 #[.pointer (some ⟨b, 0, none⟩), .int .i64 0] w (Popped b w t q.1 (popG q.2 0) (popA q.2 0)) := by
  have q' := hs.b9.k6
  have ql0 := hs.b9.box.lt
  rw [show (u 0).n = 0 by have := hs.l3.len 0 (by decide); omega] at q'
  have HS := Lib.hid hs
  have HF' := Lib.hid hf
  have HN := Lib.hid h
  have HZ := Lib.hid hz
  have HUN := Lib.hid hun
  have HVN := Lib.hid hvn
  have PN : Hid (0 < (q.2 0).length) := Lib.hid ((smallO_some (n := t.p.n) (d := d) (G := G) (r := 0) (R := fun _ => Ls.noLists) (k := 0) (by decide) (by rw [smallO_fill, if_neg (by omega)]; exact h)).1)
  have HT := Lib.hid (fun (t' : Hs) (u' : Nat → Ls.Sl) (w' : World) (hs' : Sto w' b t' u' q.1 q.2) => fill_lens hs h hs' hvn)
  clear hs hG hf h hz hun hvn
  go_enter Tryz.func55, Tryz.ntmps55
  go_wp2_with fail
  refine (fill_yes b t u d G w 0 (by decide) q HS.out HZ.out h0 HF'.out HUN.out (fun j hj => by have := HVN.out j hj; omega) HN.out).mono ?_
  rintro e w3 ⟨rfl, ⟨t', u', hs3, h3⟩, hb3⟩
  have S3 := Lib.hid hs3
  have UN := Lib.hid (HT.out t' u' w3 hs3)
  have H3 := Lib.hid h3
  have B3 := Lib.hid hb3
  clear hs3 h3 hb3 q' ql0
  have q6 := S3.out.b9.k6
  have q7 := S3.out.b9.k7
  have q8 := S3.out.b9.k8
  have ql := S3.out.b9.box.lt
  have HC : Hid (Calls Tryz.prog 87 #[(.agg #[.slice (u' 0).a (u' 0).n (u' 0).c, .slice (u' 1).a (u' 1).n (u' 1).c, .slice (u' 2).a (u' 2).n (u' 2).c]), .int .i64 0] w3 (Ls.PopOut w3 (popG q.2 0) (popA q.2 0) 0)) := Lib.hid (pop_any w3.heap.size u' q.2 0 (by decide) w3 S3.out.l3 (Nat.le_refl _) UN.out PN.out)
  go_wp2_with fail
  refine HC.out.mono ?_
  rintro e w6 ⟨v6, rfl, hl6, hb6⟩
  have S6 := S3.out.next hb6
  have r6 := S6.b9.k6
  have r7 := S6.b9.k7
  have r8 := S6.b9.k8
  have rl := S6.b9.box.lt
  have f6 := S6.b9.free 6
  have f7 := S6.b9.free 7
  have f8 := S6.b9.free 8
  have L6 := Lib.hid hl6
  have B6 := Lib.hid (B3.out.trans (hb6.mono (Nat.le_of_lt S3.out.b9.box.lt)))
  have S7 := Lib.hid S6
  clear hl6 hb6 S6 q6 q7 q8 ql
  go_wp2
  go_ret2
  exact ⟨rfl, small_end S7.out L6.out H3.out B6.out⟩
theorem small_has1 (hs : Sto w b t u d G) (hvn : ∀ j, j < 3 → (u j).n ≤ 2000000) (hG : 0 < (G 1).length) :
    Calls Tryz.prog 55 #[.pointer (some ⟨b, 0, none⟩), .int .i64 1] w (Popped b w t d (popG G 1) (popA G 1)) := by
  have hl := hs.l3.len 1 (by decide)
  have S3 := Lib.hid hs
  have UN := Lib.hid hvn
  have PN := Lib.hid hG
  have B3 := Lib.hid (Below.refl b w)
  have H3 : Hid (Same3 t t) := Lib.hid ⟨rfl, rfl, rfl⟩
  have dq : (((u 1).n : Int) == 0) = false := by simp; omega
  have q := hs.b9.k7
  have ql0 := hs.b9.box.lt
  clear hs hvn hG hl
  go_enter Tryz.func55, Tryz.ntmps55
  have q6 := S3.out.b9.k6
  have q7 := S3.out.b9.k7
  have q8 := S3.out.b9.k8
  have ql := S3.out.b9.box.lt
  have HC : Hid (Calls Tryz.prog 87 #[(.agg #[.slice (u 0).a (u 0).n (u 0).c, .slice (u 1).a (u 1).n (u 1).c, .slice (u 2).a (u 2).n (u 2).c]), .int .i64 1] w (Ls.PopOut w (popG G 1) (popA G 1) 0)) := Lib.hid (pop_any w.heap.size u G 1 (by decide) w S3.out.l3 (Nat.le_refl _) UN.out PN.out)
  go_wp2_with fail
  refine HC.out.mono ?_
  rintro e w6 ⟨v6, rfl, hl6, hb6⟩
  have S6 := S3.out.next hb6
  have r6 := S6.b9.k6
  have r7 := S6.b9.k7
  have r8 := S6.b9.k8
  have rl := S6.b9.box.lt
  have f6 := S6.b9.free 6
  have f7 := S6.b9.free 7
  have f8 := S6.b9.free 8
  have L6 := Lib.hid hl6
  have B6 := Lib.hid (B3.out.trans (hb6.mono (Nat.le_of_lt S3.out.b9.box.lt)))
  have S7 := Lib.hid S6
  clear hl6 hb6 S6 q6 q7 q8 ql
  go_wp2
  go_ret2
  exact ⟨rfl, small_end S7.out L6.out H3.out B6.out⟩
theorem small_no1 (hs : Sto w b t u d G) (hf : Fit t) (hG : (G 1).length = 0) (h : fillO d t.p.n G 1 = none) :
    Calls Tryz.prog 55 #[.pointer (some ⟨b, 0, none⟩), .int .i64 1] w fun e w' => e = .returned (.tuple #[.int .i64 0, .int .i64 4]) ∧ Below w.heap.size w w' := by
  have q := hs.b9.k7
  have ql0 := hs.b9.box.lt
  rw [show (u 1).n = 0 by have := hs.l3.len 1 (by decide); omega] at q
  have S3 := Lib.hid hs
  have HF' := Lib.hid hf
  have HN := Lib.hid h
  clear hs hG hf h
  go_enter Tryz.func55, Tryz.ntmps55
  go_wp2_with fail
  refine (fill_no b t u d G w 1 (by decide) S3.out HF'.out HN.out).mono ?_
  rintro e w1 ⟨rfl, hb1⟩
  go_wp2
  go_ret2
  exact ⟨rfl, hb1⟩
theorem small_fill1 (q : Hd_ × (Nat → List Int)) (hs : Sto w b t u d G) (hz : Cl.Sz w) (h0 : 0 < b) (hf : Fit t) (hun : ∀ j, j < 3 → (t.u j).n ≤ 1000000) (hvn : ∀ j, j < 3 → (u j).n ≤ 1000000) (hG : (G 1).length = 0) (h : fillO d t.p.n G 1 = some q) :
    Calls Tryz.prog 55 #[.pointer (some ⟨b, 0, none⟩), .int .i64 1] w (Popped b w t q.1 (popG q.2 1) (popA q.2 1)) := by
  have q' := hs.b9.k7
  have ql0 := hs.b9.box.lt
  rw [show (u 1).n = 0 by have := hs.l3.len 1 (by decide); omega] at q'
  have HS := Lib.hid hs
  have HF' := Lib.hid hf
  have HN := Lib.hid h
  have HZ := Lib.hid hz
  have HUN := Lib.hid hun
  have HVN := Lib.hid hvn
  have PN : Hid (0 < (q.2 1).length) := Lib.hid ((smallO_some (n := t.p.n) (d := d) (G := G) (r := 0) (R := fun _ => Ls.noLists) (k := 1) (by decide) (by rw [smallO_fill, if_neg (by omega)]; exact h)).1)
  have HT := Lib.hid (fun (t' : Hs) (u' : Nat → Ls.Sl) (w' : World) (hs' : Sto w' b t' u' q.1 q.2) => fill_lens hs h hs' hvn)
  clear hs hG hf h hz hun hvn
  go_enter Tryz.func55, Tryz.ntmps55
  go_wp2_with fail
  refine (fill_yes b t u d G w 1 (by decide) q HS.out HZ.out h0 HF'.out HUN.out (fun j hj => by have := HVN.out j hj; omega) HN.out).mono ?_
  rintro e w3 ⟨rfl, ⟨t', u', hs3, h3⟩, hb3⟩
  have S3 := Lib.hid hs3
  have UN := Lib.hid (HT.out t' u' w3 hs3)
  have H3 := Lib.hid h3
  have B3 := Lib.hid hb3
  clear hs3 h3 hb3 q' ql0
  have q6 := S3.out.b9.k6
  have q7 := S3.out.b9.k7
  have q8 := S3.out.b9.k8
  have ql := S3.out.b9.box.lt
  have HC : Hid (Calls Tryz.prog 87 #[(.agg #[.slice (u' 0).a (u' 0).n (u' 0).c, .slice (u' 1).a (u' 1).n (u' 1).c, .slice (u' 2).a (u' 2).n (u' 2).c]), .int .i64 1] w3 (Ls.PopOut w3 (popG q.2 1) (popA q.2 1) 0)) := Lib.hid (pop_any w3.heap.size u' q.2 1 (by decide) w3 S3.out.l3 (Nat.le_refl _) UN.out PN.out)
  go_wp2_with fail
  refine HC.out.mono ?_
  rintro e w6 ⟨v6, rfl, hl6, hb6⟩
  have S6 := S3.out.next hb6
  have r6 := S6.b9.k6
  have r7 := S6.b9.k7
  have r8 := S6.b9.k8
  have rl := S6.b9.box.lt
  have f6 := S6.b9.free 6
  have f7 := S6.b9.free 7
  have f8 := S6.b9.free 8
  have L6 := Lib.hid hl6
  have B6 := Lib.hid (B3.out.trans (hb6.mono (Nat.le_of_lt S3.out.b9.box.lt)))
  have S7 := Lib.hid S6
  clear hl6 hb6 S6 q6 q7 q8 ql
  go_wp2
  go_ret2
  exact ⟨rfl, small_end S7.out L6.out H3.out B6.out⟩
theorem small_has2 (hs : Sto w b t u d G) (hvn : ∀ j, j < 3 → (u j).n ≤ 2000000) (hG : 0 < (G 2).length) :
    Calls Tryz.prog 55 #[.pointer (some ⟨b, 0, none⟩), .int .i64 2] w (Popped b w t d (popG G 2) (popA G 2)) := by
  have hl := hs.l3.len 2 (by decide)
  have S3 := Lib.hid hs
  have UN := Lib.hid hvn
  have PN := Lib.hid hG
  have B3 := Lib.hid (Below.refl b w)
  have H3 : Hid (Same3 t t) := Lib.hid ⟨rfl, rfl, rfl⟩
  have dq : (((u 2).n : Int) == 0) = false := by simp; omega
  have q := hs.b9.k8
  have ql0 := hs.b9.box.lt
  clear hs hvn hG hl
  go_enter Tryz.func55, Tryz.ntmps55
  have q6 := S3.out.b9.k6
  have q7 := S3.out.b9.k7
  have q8 := S3.out.b9.k8
  have ql := S3.out.b9.box.lt
  have HC : Hid (Calls Tryz.prog 87 #[(.agg #[.slice (u 0).a (u 0).n (u 0).c, .slice (u 1).a (u 1).n (u 1).c, .slice (u 2).a (u 2).n (u 2).c]), .int .i64 2] w (Ls.PopOut w (popG G 2) (popA G 2) 0)) := Lib.hid (pop_any w.heap.size u G 2 (by decide) w S3.out.l3 (Nat.le_refl _) UN.out PN.out)
  go_wp2_with fail
  refine HC.out.mono ?_
  rintro e w6 ⟨v6, rfl, hl6, hb6⟩
  have S6 := S3.out.next hb6
  have r6 := S6.b9.k6
  have r7 := S6.b9.k7
  have r8 := S6.b9.k8
  have rl := S6.b9.box.lt
  have f6 := S6.b9.free 6
  have f7 := S6.b9.free 7
  have f8 := S6.b9.free 8
  have L6 := Lib.hid hl6
  have B6 := Lib.hid (B3.out.trans (hb6.mono (Nat.le_of_lt S3.out.b9.box.lt)))
  have S7 := Lib.hid S6
  clear hl6 hb6 S6 q6 q7 q8 ql
  go_wp2
  go_ret2
  exact ⟨rfl, small_end S7.out L6.out H3.out B6.out⟩
theorem small_no2 (hs : Sto w b t u d G) (hf : Fit t) (hG : (G 2).length = 0) (h : fillO d t.p.n G 2 = none) :
    Calls Tryz.prog 55 #[.pointer (some ⟨b, 0, none⟩), .int .i64 2] w fun e w' => e = .returned (.tuple #[.int .i64 0, .int .i64 4]) ∧ Below w.heap.size w w' := by
  have q := hs.b9.k8
  have ql0 := hs.b9.box.lt
  rw [show (u 2).n = 0 by have := hs.l3.len 2 (by decide); omega] at q
  have S3 := Lib.hid hs
  have HF' := Lib.hid hf
  have HN := Lib.hid h
  clear hs hG hf h
  go_enter Tryz.func55, Tryz.ntmps55
  go_wp2_with fail
  refine (fill_no b t u d G w 2 (by decide) S3.out HF'.out HN.out).mono ?_
  rintro e w1 ⟨rfl, hb1⟩
  go_wp2
  go_ret2
  exact ⟨rfl, hb1⟩
theorem small_fill2 (q : Hd_ × (Nat → List Int)) (hs : Sto w b t u d G) (hz : Cl.Sz w) (h0 : 0 < b) (hf : Fit t) (hun : ∀ j, j < 3 → (t.u j).n ≤ 1000000) (hvn : ∀ j, j < 3 → (u j).n ≤ 1000000) (hG : (G 2).length = 0) (h : fillO d t.p.n G 2 = some q) :
    Calls Tryz.prog 55 #[.pointer (some ⟨b, 0, none⟩), .int .i64 2] w (Popped b w t q.1 (popG q.2 2) (popA q.2 2)) := by
  have q' := hs.b9.k8
  have ql0 := hs.b9.box.lt
  rw [show (u 2).n = 0 by have := hs.l3.len 2 (by decide); omega] at q'
  have HS := Lib.hid hs
  have HF' := Lib.hid hf
  have HN := Lib.hid h
  have HZ := Lib.hid hz
  have HUN := Lib.hid hun
  have HVN := Lib.hid hvn
  have PN : Hid (0 < (q.2 2).length) := Lib.hid ((smallO_some (n := t.p.n) (d := d) (G := G) (r := 0) (R := fun _ => Ls.noLists) (k := 2) (by decide) (by rw [smallO_fill, if_neg (by omega)]; exact h)).1)
  have HT := Lib.hid (fun (t' : Hs) (u' : Nat → Ls.Sl) (w' : World) (hs' : Sto w' b t' u' q.1 q.2) => fill_lens hs h hs' hvn)
  clear hs hG hf h hz hun hvn
  go_enter Tryz.func55, Tryz.ntmps55
  go_wp2_with fail
  refine (fill_yes b t u d G w 2 (by decide) q HS.out HZ.out h0 HF'.out HUN.out (fun j hj => by have := HVN.out j hj; omega) HN.out).mono ?_
  rintro e w3 ⟨rfl, ⟨t', u', hs3, h3⟩, hb3⟩
  have S3 := Lib.hid hs3
  have UN := Lib.hid (HT.out t' u' w3 hs3)
  have H3 := Lib.hid h3
  have B3 := Lib.hid hb3
  clear hs3 h3 hb3 q' ql0
  have q6 := S3.out.b9.k6
  have q7 := S3.out.b9.k7
  have q8 := S3.out.b9.k8
  have ql := S3.out.b9.box.lt
  have HC : Hid (Calls Tryz.prog 87 #[(.agg #[.slice (u' 0).a (u' 0).n (u' 0).c, .slice (u' 1).a (u' 1).n (u' 1).c, .slice (u' 2).a (u' 2).n (u' 2).c]), .int .i64 2] w3 (Ls.PopOut w3 (popG q.2 2) (popA q.2 2) 0)) := Lib.hid (pop_any w3.heap.size u' q.2 2 (by decide) w3 S3.out.l3 (Nat.le_refl _) UN.out PN.out)
  go_wp2_with fail
  refine HC.out.mono ?_
  rintro e w6 ⟨v6, rfl, hl6, hb6⟩
  have S6 := S3.out.next hb6
  have r6 := S6.b9.k6
  have r7 := S6.b9.k7
  have r8 := S6.b9.k8
  have rl := S6.b9.box.lt
  have f6 := S6.b9.free 6
  have f7 := S6.b9.free 7
  have f8 := S6.b9.free 8
  have L6 := Lib.hid hl6
  have B6 := Lib.hid (B3.out.trans (hb6.mono (Nat.le_of_lt S3.out.b9.box.lt)))
  have S7 := Lib.hid S6
  clear hl6 hb6 S6 q6 q7 q8 ql
  go_wp2
  go_ret2
  exact ⟨rfl, small_end S7.out L6.out H3.out B6.out⟩
theorem small_yes (k : Nat) (hk : k < 3) (q : Hd_ × (Nat → List Int)) (hs : Sto w b t u d G) (hz : Cl.Sz w) (h0 : 0 < b) (hf : Fit t) (hun : ∀ j, j < 3 → (t.u j).n ≤ 1000000) (hvn : ∀ j, j < 3 → (u j).n ≤ 1000000) (h : smallO d t.p.n G k = some q) :
    Calls Tryz.prog 55 #[.pointer (some ⟨b, 0, none⟩), .int .i64 k] w (Popped b w t q.1 (popG q.2 k) (popA q.2 k)) := by
  rw [smallO_fill] at h
  have hvn2 : ∀ j, j < 3 → (u j).n ≤ 2000000 := fun j hj => by have := hvn j hj; omega
  split at h
  · next h1 =>
    cases h
    rcases (show k = 0 ∨ k = 1 ∨ k = 2 by omega) with rfl | rfl | rfl
    · exact small_has0 b t u d G w hs hvn2 h1
    · exact small_has1 b t u d G w hs hvn2 h1
    · exact small_has2 b t u d G w hs hvn2 h1
  · next h1 =>
    rcases (show k = 0 ∨ k = 1 ∨ k = 2 by omega) with rfl | rfl | rfl
    · exact small_fill0 b t u d G w q hs hz h0 hf hun hvn (by omega) h
    · exact small_fill1 b t u d G w q hs hz h0 hf hun hvn (by omega) h
    · exact small_fill2 b t u d G w q hs hz h0 hf hun hvn (by omega) h
theorem small_no (k : Nat) (hk : k < 3) (hs : Sto w b t u d G) (hf : Fit t) (h : smallO d t.p.n G k = none) :
    Calls Tryz.prog 55 #[.pointer (some ⟨b, 0, none⟩), .int .i64 k] w fun e w' => e = .returned (.tuple #[.int .i64 0, .int .i64 4]) ∧ Below w.heap.size w w' := by
  rw [smallO_fill] at h
  split at h
  · cases h
  · next h1 =>
    rcases (show k = 0 ∨ k = 1 ∨ k = 2 by omega) with rfl | rfl | rfl
    · exact small_no0 b t u d G w hs hf (by omega) h
    · exact small_no1 b t u d G w hs hf (by omega) h
    · exact small_no2 b t u d G w hs hf (by omega) h
end
end Go.Proofs.YtdmclfolooiccaaGreatDoor
end
section
namespace Go.Proofs.YtdmclfolooiccaaGreatDoor
open Go.RowKit
set_option maxRecDepth 100000

theorem popped_of {b : Nat} {w : World} {t : Hs} {u : Nat → Ls.Sl} {d' : Hd_} {G' : Nat → List Int} {a : Int} {e : Ending} {w' : World} (h : PoppedL b w t u d' G' a e w') : Popped b w t d' G' a e w' := by
  obtain ⟨h1, ⟨t', h2, h3⟩, h4⟩ := h
  exact ⟨h1, ⟨t', u, h2, h3⟩, h4⟩
section
variable (b : Nat) (t : Hs) (u : Nat → Ls.Sl) (d : Hd_) (G : Nat → List Int) (w : World) (N : Int)
theorem take_err (er : Int) (he : Cl.classErr N = er) (h : ¬ er = 0) (hz : Cl.Sz w) : Calls Tryz.prog 22 #[.pointer (some ⟨b, 0, none⟩), .int .i64 N] w fun e w' => e = .returned (.tuple #[.int .i64 0, .int .i64 er]) ∧ Below w.heap.size w w' := by
  have HC := Cl.of_of N w hz
  rw [he] at HC
  have HR := Lib.hid HC
  have dn : (er != 0) = true := by simp [h]
  clear HC he h hz
  go_enter Tryz.func22, Tryz.ntmps22
  go_wp2_with fail
  refine HR.out.mono ?_
  rintro e w0 ⟨rfl, rfl⟩
  go_wp2
  go_ret2
  exact ⟨rfl, Below.refl _ _⟩
theorem take_large (hz : Cl.Sz w) (he : Cl.classErr N = 0) (h3 : Cl.classOf N = 3) (x y : Int) (R : World → Prop) (hL : Calls Tryz.prog 54 #[.pointer (some ⟨b, 0, none⟩), .int .i64 N] w fun e w' => e = .returned (.tuple #[.int .i64 x, .int .i64 y]) ∧ R w') :
    Calls Tryz.prog 22 #[.pointer (some ⟨b, 0, none⟩), .int .i64 N] w fun e w' => e = .returned (.tuple #[.int .i64 x, .int .i64 y]) ∧ R w' := by
  have HC := Cl.of_of N w hz
  rw [he, h3] at HC
  have HR := Lib.hid HC
  have HL := Lib.hid hL
  clear HC he h3 hz hL
  go_enter Tryz.func22, Tryz.ntmps22
  go_wp2_with fail
  refine HR.out.mono ?_
  rintro e w0 ⟨rfl, rfl⟩
  go_wp2_with fail
  refine HL.out.mono ?_
  rintro e w1 ⟨rfl, hR⟩
  have H1 := Lib.hid hR
  clear hR
  go_wp2
  go_ret2
  exact ⟨rfl, H1.out⟩
theorem take_small (k : Nat) (hz : Cl.Sz w) (he : Cl.classErr N = 0) (h3 : Cl.classOf N = (k : Int)) (hk : k < 3) (x y : Int) (R : World → Prop) (hL : Calls Tryz.prog 55 #[.pointer (some ⟨b, 0, none⟩), .int .i64 k] w fun e w' => e = .returned (.tuple #[.int .i64 x, .int .i64 y]) ∧ R w') :
    Calls Tryz.prog 22 #[.pointer (some ⟨b, 0, none⟩), .int .i64 N] w fun e w' => e = .returned (.tuple #[.int .i64 x, .int .i64 y]) ∧ R w' := by
  have HC := Cl.of_of N w hz
  rw [he, h3] at HC
  have HR := Lib.hid HC
  have HL := Lib.hid hL
  have dk : ((k : Int) == 3) = false := by simp; omega
  clear HC he h3 hz hL
  go_enter Tryz.func22, Tryz.ntmps22
  go_wp2_with fail
  refine HR.out.mono ?_
  rintro e w0 ⟨rfl, rfl⟩
  go_wp2_with fail
  refine HL.out.mono ?_
  rintro e w1 ⟨rfl, hR⟩
  have H1 := Lib.hid hR
  clear hR
  go_wp2
  go_ret2
  exact ⟨rfl, H1.out⟩
theorem take_yes (q : Hd_ × (Nat → List Int) × Int) (hs : Sto w b t u d G) (hz : Cl.Sz w) (h0 : 0 < b) (hf : Fit t) (hun : ∀ j, j < 3 → (t.u j).n ≤ 1000000) (hvn : ∀ j, j < 3 → (u j).n ≤ 1000000) (he : Cl.classErr N = 0) (h : takeO d t.p.n G N = some q) :
    Calls Tryz.prog 22 #[.pointer (some ⟨b, 0, none⟩), .int .i64 N] w (Popped b w t q.1 q.2.1 q.2.2) := by
  unfold takeO at h
  split at h
  · next h3 =>
    split at h
    · next p hp =>
      cases h
      exact take_large b w N hz he h3 _ _ _ ((large_yes b t u d G w N _ p hs hz hf (class_large he h3).1 rfl hp).mono fun e w' ho => popped_of ho)
    · cases h
  · next h3 =>
    have hc := class_small h3
    split at h
    · next q' hq =>
      cases h
      exact take_small b w N (Cl.classOf N).toNat hz he (by omega) (by omega) _ _ _ ((small_yes b t u d G w (Cl.classOf N).toNat (by omega) q' hs hz h0 hf hun hvn hq))
    · cases h
theorem take_no (hs : Sto w b t u d G) (hz : Cl.Sz w) (hf : Fit t) (he : Cl.classErr N = 0) (h : takeO d t.p.n G N = none) :
    Calls Tryz.prog 22 #[.pointer (some ⟨b, 0, none⟩), .int .i64 N] w fun e w' => e = .returned (.tuple #[.int .i64 0, .int .i64 4]) ∧ Below w.heap.size w w' := by
  unfold takeO at h
  split at h
  · next h3 =>
    split at h
    · cases h
    · next hp =>
      exact take_large b w N hz he h3 _ _ _ ((large_no b t u d G w N _ hs hz hf (class_large he h3).1 rfl hp))
  · next h3 =>
    have hc := class_small h3
    split at h
    · cases h
    · next hq =>
      exact take_small b w N (Cl.classOf N).toNat hz he (by omega) (by omega) _ _ _ ((small_no b t u d G w (Cl.classOf N).toNat (by omega) hs hf hq))
end
end Go.Proofs.YtdmclfolooiccaaGreatDoor
end
