/-
  Package alloc's fill: cells of a class are moved from Free to the cache.
-/
import Derived.Test.YtdmclfolooiccaaGreatDoorHpAN
namespace Go.Proofs.YtdmclfolooiccaaGreatDoor
open Go.RowKit
set_option maxRecDepth 100000

/-- The cache was filled. -/
def Filled (b : Nat) (w : World) (t : Hs) (d' : Hd_) (G' : Nat → List Int) (e : Ending) (w' : World) : Prop :=
  e = .returned (.bool true) ∧ (∃ t' u', Sto w' b t' u' d' G' ∧ Same3 t t') ∧ Below b w w'
theorem fill_end {b : Nat} {w w6 : World} {t t' : Hs} {u v x : Nat → Ls.Sl} {d : Hd_} {G F' G' : Nat → List Int} (h : Sto w6 b t' u d G) (hv : Ls.L3 w6 w6.heap.size v F') (hx : Ls.L3 w6 w6.heap.size x G') (h3 : Same3 t t') (hb : Below b w w6) :
    (∃ t' u', Sto ((((((w6.setCell ⟨b, 2, none⟩ (.slice (v 0).a (v 0).n (v 0).c)).setCell ⟨b, 3, none⟩ (.slice (v 1).a (v 1).n (v 1).c)).setCell ⟨b, 4, none⟩ (.slice (v 2).a (v 2).n (v 2).c)).setCell ⟨b, 6, none⟩ (.slice (x 0).a (x 0).n (x 0).c)).setCell ⟨b, 7, none⟩ (.slice (x 1).a (x 1).n (x 1).c)).setCell ⟨b, 8, none⟩ (.slice (x 2).a (x 2).n (x 2).c)) b t' u' ⟨d.ws, d.f, F', d.cs⟩ G' ∧ Same3 t t') ∧
    Below b w ((((((w6.setCell ⟨b, 2, none⟩ (.slice (v 0).a (v 0).n (v 0).c)).setCell ⟨b, 3, none⟩ (.slice (v 1).a (v 1).n (v 1).c)).setCell ⟨b, 4, none⟩ (.slice (v 2).a (v 2).n (v 2).c)).setCell ⟨b, 6, none⟩ (.slice (x 0).a (x 0).n (x 0).c)).setCell ⟨b, 7, none⟩ (.slice (x 1).a (x 1).n (x 1).c)).setCell ⟨b, 8, none⟩ (.slice (x 2).a (x 2).n (x 2).c)) := by
  refine ⟨⟨⟨t'.w, t'.p, v, t'.c⟩, x, h.turn ((h.b9.free3 v).cache3 x) (fun i hi => (set3_others i hi).trans (set3_others i hi)) (by simp only [set_size]) ⟨h.hp.words, h.hp.pages, hv, h.hp.cards⟩ hx h.pc, h3⟩, ?_⟩
  exact (((((hb.setCell (p := ⟨b, 2, none⟩) (Nat.le_refl _) _).setCell (p := ⟨b, 3, none⟩) (Nat.le_refl _) _).setCell (p := ⟨b, 4, none⟩) (Nat.le_refl _) _).setCell (p := ⟨b, 6, none⟩) (Nat.le_refl _) _).setCell (p := ⟨b, 7, none⟩) (Nat.le_refl _) _).setCell (p := ⟨b, 8, none⟩) (Nat.le_refl _) _
theorem split_lens {w w' : World} {b n k p : Nat} {t t' : Hs} {u u' : Nat → Ls.Sl} {d : Hd_} {G : Nat → List Int} (hs : Sto w b t u d G) (hs' : Sto w' b t' u' (splitD d n k p) G) (hn : ∀ j, j < 3 → (t.u j).n ≤ 1000000) : ∀ j, j < 3 → (t'.u j).n ≤ 2000000 := fun j hj => by
  have h1 := hs.hp.free.len j hj
  have h2 := hs'.hp.free.len j hj
  have h3 := hn j hj
  have h4 := on_short (Cl.put d.f p (1, (k : Int))) n p
  have h5 : ((splitD d n k p).F j).length ≤ (d.F j).length + 8 := by
    unfold splitD Ls.upd
    simp only
    split
    · next e => subst e; rw [List.length_append, List.length_reverse]; omega
    · omega
  omega
section
variable (b : Nat) (t : Hs) (u : Nat → Ls.Sl) (d : Hd_) (G : Nat → List Int) (w : World)
/-- Free has some of class 0. -/
theorem fill_has0 (hs : Sto w b t u d G) (hun : ∀ j, j < 3 → (t.u j).n ≤ 2000000) (hvn : ∀ j, j < 3 → (u j).n ≤ 2000000) (hF : 0 < (t.u 0).n) :
    Calls Tryz.prog 86 #[.pointer (some ⟨b, 0, none⟩), .int .i64 0] w (Filled b w t (fillD d 0) (fillG d.F G 0)) := by
  have S3 := Lib.hid hs
  have UN := Lib.hid hun
  have VN := Lib.hid hvn
  have B3 := Lib.hid (Below.refl b w)
  have H3 : Hid (Same3 t t) := Lib.hid ⟨rfl, rfl, rfl⟩
  have dq : (((t.u 0).n : Int) == 0) = false := by simp; omega
  have q := hs.b9.box.c2
  have ql0 := hs.b9.box.lt
  clear hs hun hvn hF
  go_enter Tryz.func86, Tryz.ntmps86
  go_wp2_with fail
  clear q ql0 dq
  have q2 := S3.out.b9.box.c2
  have q3 := S3.out.b9.box.c3
  have q4 := S3.out.b9.box.c4
  have q6 := S3.out.b9.k6
  have q7 := S3.out.b9.k7
  have q8 := S3.out.b9.k8
  have ql := S3.out.b9.box.lt
  have S4 := Lib.hid (S3.out.next (below_drawn' (Below.refl _ _) 1))
  have B4 := Lib.hid (below_drawn' B3.out 1)
  have HC : Hid (Calls Tryz.prog 114 #[(.agg #[.slice (t.u 0).a (t.u 0).n (t.u 0).c, .slice (t.u 1).a (t.u 1).n (t.u 1).c, .slice (t.u 2).a (t.u 2).n (t.u 2).c]), (.agg #[.slice (u 0).a (u 0).n (u 0).c, .slice (u 1).a (u 1).n (u 1).c, .slice (u 2).a (u 2).n (u 2).c]), .int .i64 0, .int .i64 2] w.drew (Ls.MoveOut w.drew (fillD d 0).F (fillG d.F G 0) 0)) := Lib.hid (Ls.move_ok w.drew.heap.size t.u u d.F G 0 2 (by decide) w.drew S4.out.hp.free S4.out.l3 (Nat.le_refl _) UN.out VN.out (by omega))
  have hle : b ≤ w.drew.heap.size := Nat.le_of_lt S4.out.b9.box.lt
  go_region_with ((go_at_call 114; refine HC.out.mono ?_; rintro e w6 ⟨v6, x6, rfl, hl6, hx6, hb6⟩; have S6 := S4.out.next hb6; have r2 := S6.b9.box.c2; have r3 := S6.b9.box.c3; have r4 := S6.b9.box.c4; have r6 := S6.b9.k6; have r7 := S6.b9.k7; have r8 := S6.b9.k8; have rl := S6.b9.box.lt; have f2 := S6.b9.free 2; have f3 := S6.b9.free 3; have f4 := S6.b9.free 4; have f6 := S6.b9.free 6; have f7 := S6.b9.free 7; have f8 := S6.b9.free 8; have L6 := Lib.hid hl6; have X6' := Lib.hid hx6; have B6 := Lib.hid (B4.out.trans (hb6.mono hle)); have S7 := Lib.hid S6; clear hl6 hx6 hb6 S6 q2 q3 q4 q6 q7 q8 ql))
  all_goals go_wp2
  all_goals go_ret
  all_goals exact ⟨rfl, fill_end S7.out L6.out X6'.out H3.out B6.out⟩
theorem fill_none0 (hs : Sto w b t u d G) (hf : Fit t) (hF : (t.u 0).n = 0) (h : Cl.findO d.f t.p.n 1 = none) :
    Calls Tryz.prog 86 #[.pointer (some ⟨b, 0, none⟩), .int .i64 0] w fun e w' => e = .returned (.bool false) ∧ Below w.heap.size w w' := by
  have q := hs.b9.box.c2
  have ql0 := hs.b9.box.lt
  rw [hF] at q
  have S3 := Lib.hid hs
  have HF' := Lib.hid hf
  have HN := Lib.hid h
  clear hs hF hf h
  go_enter Tryz.func86, Tryz.ntmps86
  go_wp2_with fail
  refine (split_none b t u d G 0 w S3.out HF'.out HN.out).mono ?_
  rintro e w1 ⟨rfl, hb1⟩
  go_wp2
  go_ret
  exact ⟨rfl, hb1⟩
theorem fill_split0 (p : Nat) (hs : Sto w b t u d G) (hz : Cl.Sz w) (h0 : 0 < b) (hf : Fit t) (hun : ∀ j, j < 3 → (t.u j).n ≤ 1000000) (hvn : ∀ j, j < 3 → (u j).n ≤ 2000000) (hF : (t.u 0).n = 0) (h : Cl.findO d.f t.p.n 1 = some p) :
    Calls Tryz.prog 86 #[.pointer (some ⟨b, 0, none⟩), .int .i64 0] w (Filled b w t (fillD (splitD d t.p.n 0 p) 0) (fillG (splitD d t.p.n 0 p).F G 0)) := by
  have q := hs.b9.box.c2
  have ql0 := hs.b9.box.lt
  rw [hF] at q
  have HS := Lib.hid hs
  have HF' := Lib.hid hf
  have HN := Lib.hid h
  have HZ := Lib.hid hz
  have HUN := Lib.hid hun
  have VN := Lib.hid hvn
  have HT := Lib.hid (fun (t' : Hs) (u' : Nat → Ls.Sl) (w' : World) (hs' : Sto w' b t' u' (splitD d t.p.n 0 p) G) => split_lens hs hs' hun)
  clear hs hF hf h hz hun hvn
  go_enter Tryz.func86, Tryz.ntmps86
  go_wp2_with fail
  refine (split_some b t u d G 0 w p HS.out HZ.out h0 HF'.out (by decide) (fun j hj => by have := HUN.out j hj; omega) HN.out).mono ?_
  rintro e w3 ⟨rfl, ⟨t', hs3, h3⟩, hb3⟩
  have S3 := Lib.hid hs3
  have UN := Lib.hid (HT.out t' u w3 hs3)
  have H3 := Lib.hid h3
  have B3 := Lib.hid hb3
  clear hs3 h3 hb3 q ql0
  have q2 := S3.out.b9.box.c2
  have q3 := S3.out.b9.box.c3
  have q4 := S3.out.b9.box.c4
  have q6 := S3.out.b9.k6
  have q7 := S3.out.b9.k7
  have q8 := S3.out.b9.k8
  have ql := S3.out.b9.box.lt
  go_wp2_with fail
  have S4 := Lib.hid (S3.out.next (below_drawn' (Below.refl _ _) 1))
  have B4 := Lib.hid (below_drawn' B3.out 1)
  have HC : Hid (Calls Tryz.prog 114 #[(.agg #[.slice (t'.u 0).a (t'.u 0).n (t'.u 0).c, .slice (t'.u 1).a (t'.u 1).n (t'.u 1).c, .slice (t'.u 2).a (t'.u 2).n (t'.u 2).c]), (.agg #[.slice (u 0).a (u 0).n (u 0).c, .slice (u 1).a (u 1).n (u 1).c, .slice (u 2).a (u 2).n (u 2).c]), .int .i64 0, .int .i64 2] w3.drew (Ls.MoveOut w3.drew (fillD (splitD d t.p.n 0 p) 0).F (fillG (splitD d t.p.n 0 p).F G 0) 0)) := Lib.hid (Ls.move_ok w3.drew.heap.size t'.u u (splitD d t.p.n 0 p).F G 0 2 (by decide) w3.drew S4.out.hp.free S4.out.l3 (Nat.le_refl _) UN.out VN.out (by omega))
  have hle : b ≤ w3.drew.heap.size := Nat.le_of_lt S4.out.b9.box.lt
  go_region_with ((go_at_call 114; refine HC.out.mono ?_; rintro e w6 ⟨v6, x6, rfl, hl6, hx6, hb6⟩; have S6 := S4.out.next hb6; have r2 := S6.b9.box.c2; have r3 := S6.b9.box.c3; have r4 := S6.b9.box.c4; have r6 := S6.b9.k6; have r7 := S6.b9.k7; have r8 := S6.b9.k8; have rl := S6.b9.box.lt; have f2 := S6.b9.free 2; have f3 := S6.b9.free 3; have f4 := S6.b9.free 4; have f6 := S6.b9.free 6; have f7 := S6.b9.free 7; have f8 := S6.b9.free 8; have L6 := Lib.hid hl6; have X6' := Lib.hid hx6; have B6 := Lib.hid (B4.out.trans (hb6.mono hle)); have S7 := Lib.hid S6; clear hl6 hx6 hb6 S6 q2 q3 q4 q6 q7 q8 ql))
  all_goals go_wp2
  all_goals go_ret
  all_goals exact ⟨rfl, fill_end S7.out L6.out X6'.out H3.out B6.out⟩
/-- Free has some of class 1. -/
theorem fill_has1 (hs : Sto w b t u d G) (hun : ∀ j, j < 3 → (t.u j).n ≤ 2000000) (hvn : ∀ j, j < 3 → (u j).n ≤ 2000000) (hF : 0 < (t.u 1).n) :
    Calls Tryz.prog 86 #[.pointer (some ⟨b, 0, none⟩), .int .i64 1] w (Filled b w t (fillD d 1) (fillG d.F G 1)) := by
  have S3 := Lib.hid hs
  have UN := Lib.hid hun
  have VN := Lib.hid hvn
  have B3 := Lib.hid (Below.refl b w)
  have H3 : Hid (Same3 t t) := Lib.hid ⟨rfl, rfl, rfl⟩
  have dq : (((t.u 1).n : Int) == 0) = false := by simp; omega
  have q := hs.b9.box.c3
  have ql0 := hs.b9.box.lt
  clear hs hun hvn hF
  go_enter Tryz.func86, Tryz.ntmps86
  go_wp2_with fail
  clear q ql0 dq
  have q2 := S3.out.b9.box.c2
  have q3 := S3.out.b9.box.c3
  have q4 := S3.out.b9.box.c4
  have q6 := S3.out.b9.k6
  have q7 := S3.out.b9.k7
  have q8 := S3.out.b9.k8
  have ql := S3.out.b9.box.lt
  have S4 := Lib.hid (S3.out.next (below_drawn' (Below.refl _ _) 1))
  have B4 := Lib.hid (below_drawn' B3.out 1)
  have HC : Hid (Calls Tryz.prog 114 #[(.agg #[.slice (t.u 0).a (t.u 0).n (t.u 0).c, .slice (t.u 1).a (t.u 1).n (t.u 1).c, .slice (t.u 2).a (t.u 2).n (t.u 2).c]), (.agg #[.slice (u 0).a (u 0).n (u 0).c, .slice (u 1).a (u 1).n (u 1).c, .slice (u 2).a (u 2).n (u 2).c]), .int .i64 1, .int .i64 2] w.drew (Ls.MoveOut w.drew (fillD d 1).F (fillG d.F G 1) 0)) := Lib.hid (Ls.move_ok w.drew.heap.size t.u u d.F G 1 2 (by decide) w.drew S4.out.hp.free S4.out.l3 (Nat.le_refl _) UN.out VN.out (by omega))
  have hle : b ≤ w.drew.heap.size := Nat.le_of_lt S4.out.b9.box.lt
  go_region_with ((go_at_call 114; refine HC.out.mono ?_; rintro e w6 ⟨v6, x6, rfl, hl6, hx6, hb6⟩; have S6 := S4.out.next hb6; have r2 := S6.b9.box.c2; have r3 := S6.b9.box.c3; have r4 := S6.b9.box.c4; have r6 := S6.b9.k6; have r7 := S6.b9.k7; have r8 := S6.b9.k8; have rl := S6.b9.box.lt; have f2 := S6.b9.free 2; have f3 := S6.b9.free 3; have f4 := S6.b9.free 4; have f6 := S6.b9.free 6; have f7 := S6.b9.free 7; have f8 := S6.b9.free 8; have L6 := Lib.hid hl6; have X6' := Lib.hid hx6; have B6 := Lib.hid (B4.out.trans (hb6.mono hle)); have S7 := Lib.hid S6; clear hl6 hx6 hb6 S6 q2 q3 q4 q6 q7 q8 ql))
  all_goals go_wp2
  all_goals go_ret
  all_goals exact ⟨rfl, fill_end S7.out L6.out X6'.out H3.out B6.out⟩
theorem fill_none1 (hs : Sto w b t u d G) (hf : Fit t) (hF : (t.u 1).n = 0) (h : Cl.findO d.f t.p.n 1 = none) :
    Calls Tryz.prog 86 #[.pointer (some ⟨b, 0, none⟩), .int .i64 1] w fun e w' => e = .returned (.bool false) ∧ Below w.heap.size w w' := by
  have q := hs.b9.box.c3
  have ql0 := hs.b9.box.lt
  rw [hF] at q
  have S3 := Lib.hid hs
  have HF' := Lib.hid hf
  have HN := Lib.hid h
  clear hs hF hf h
  go_enter Tryz.func86, Tryz.ntmps86
  go_wp2_with fail
  refine (split_none b t u d G 1 w S3.out HF'.out HN.out).mono ?_
  rintro e w1 ⟨rfl, hb1⟩
  go_wp2
  go_ret
  exact ⟨rfl, hb1⟩
theorem fill_split1 (p : Nat) (hs : Sto w b t u d G) (hz : Cl.Sz w) (h0 : 0 < b) (hf : Fit t) (hun : ∀ j, j < 3 → (t.u j).n ≤ 1000000) (hvn : ∀ j, j < 3 → (u j).n ≤ 2000000) (hF : (t.u 1).n = 0) (h : Cl.findO d.f t.p.n 1 = some p) :
    Calls Tryz.prog 86 #[.pointer (some ⟨b, 0, none⟩), .int .i64 1] w (Filled b w t (fillD (splitD d t.p.n 1 p) 1) (fillG (splitD d t.p.n 1 p).F G 1)) := by
  have q := hs.b9.box.c3
  have ql0 := hs.b9.box.lt
  rw [hF] at q
  have HS := Lib.hid hs
  have HF' := Lib.hid hf
  have HN := Lib.hid h
  have HZ := Lib.hid hz
  have HUN := Lib.hid hun
  have VN := Lib.hid hvn
  have HT := Lib.hid (fun (t' : Hs) (u' : Nat → Ls.Sl) (w' : World) (hs' : Sto w' b t' u' (splitD d t.p.n 1 p) G) => split_lens hs hs' hun)
  clear hs hF hf h hz hun hvn
  go_enter Tryz.func86, Tryz.ntmps86
  go_wp2_with fail
  refine (split_some b t u d G 1 w p HS.out HZ.out h0 HF'.out (by decide) (fun j hj => by have := HUN.out j hj; omega) HN.out).mono ?_
  rintro e w3 ⟨rfl, ⟨t', hs3, h3⟩, hb3⟩
  have S3 := Lib.hid hs3
  have UN := Lib.hid (HT.out t' u w3 hs3)
  have H3 := Lib.hid h3
  have B3 := Lib.hid hb3
  clear hs3 h3 hb3 q ql0
  have q2 := S3.out.b9.box.c2
  have q3 := S3.out.b9.box.c3
  have q4 := S3.out.b9.box.c4
  have q6 := S3.out.b9.k6
  have q7 := S3.out.b9.k7
  have q8 := S3.out.b9.k8
  have ql := S3.out.b9.box.lt
  go_wp2_with fail
  have S4 := Lib.hid (S3.out.next (below_drawn' (Below.refl _ _) 1))
  have B4 := Lib.hid (below_drawn' B3.out 1)
  have HC : Hid (Calls Tryz.prog 114 #[(.agg #[.slice (t'.u 0).a (t'.u 0).n (t'.u 0).c, .slice (t'.u 1).a (t'.u 1).n (t'.u 1).c, .slice (t'.u 2).a (t'.u 2).n (t'.u 2).c]), (.agg #[.slice (u 0).a (u 0).n (u 0).c, .slice (u 1).a (u 1).n (u 1).c, .slice (u 2).a (u 2).n (u 2).c]), .int .i64 1, .int .i64 2] w3.drew (Ls.MoveOut w3.drew (fillD (splitD d t.p.n 1 p) 1).F (fillG (splitD d t.p.n 1 p).F G 1) 0)) := Lib.hid (Ls.move_ok w3.drew.heap.size t'.u u (splitD d t.p.n 1 p).F G 1 2 (by decide) w3.drew S4.out.hp.free S4.out.l3 (Nat.le_refl _) UN.out VN.out (by omega))
  have hle : b ≤ w3.drew.heap.size := Nat.le_of_lt S4.out.b9.box.lt
  go_region_with ((go_at_call 114; refine HC.out.mono ?_; rintro e w6 ⟨v6, x6, rfl, hl6, hx6, hb6⟩; have S6 := S4.out.next hb6; have r2 := S6.b9.box.c2; have r3 := S6.b9.box.c3; have r4 := S6.b9.box.c4; have r6 := S6.b9.k6; have r7 := S6.b9.k7; have r8 := S6.b9.k8; have rl := S6.b9.box.lt; have f2 := S6.b9.free 2; have f3 := S6.b9.free 3; have f4 := S6.b9.free 4; have f6 := S6.b9.free 6; have f7 := S6.b9.free 7; have f8 := S6.b9.free 8; have L6 := Lib.hid hl6; have X6' := Lib.hid hx6; have B6 := Lib.hid (B4.out.trans (hb6.mono hle)); have S7 := Lib.hid S6; clear hl6 hx6 hb6 S6 q2 q3 q4 q6 q7 q8 ql))
  all_goals go_wp2
  all_goals go_ret
  all_goals exact ⟨rfl, fill_end S7.out L6.out X6'.out H3.out B6.out⟩
/-- Free has some of class 2. -/
theorem fill_has2 (hs : Sto w b t u d G) (hun : ∀ j, j < 3 → (t.u j).n ≤ 2000000) (hvn : ∀ j, j < 3 → (u j).n ≤ 2000000) (hF : 0 < (t.u 2).n) :
    Calls Tryz.prog 86 #[.pointer (some ⟨b, 0, none⟩), .int .i64 2] w (Filled b w t (fillD d 2) (fillG d.F G 2)) := by
  have S3 := Lib.hid hs
  have UN := Lib.hid hun
  have VN := Lib.hid hvn
  have B3 := Lib.hid (Below.refl b w)
  have H3 : Hid (Same3 t t) := Lib.hid ⟨rfl, rfl, rfl⟩
  have dq : (((t.u 2).n : Int) == 0) = false := by simp; omega
  have q := hs.b9.box.c4
  have ql0 := hs.b9.box.lt
  clear hs hun hvn hF
  go_enter Tryz.func86, Tryz.ntmps86
  go_wp2_with fail
  clear q ql0 dq
  have q2 := S3.out.b9.box.c2
  have q3 := S3.out.b9.box.c3
  have q4 := S3.out.b9.box.c4
  have q6 := S3.out.b9.k6
  have q7 := S3.out.b9.k7
  have q8 := S3.out.b9.k8
  have ql := S3.out.b9.box.lt
  have S4 := Lib.hid (S3.out.next (below_drawn' (Below.refl _ _) 1))
  have B4 := Lib.hid (below_drawn' B3.out 1)
  have HC : Hid (Calls Tryz.prog 114 #[(.agg #[.slice (t.u 0).a (t.u 0).n (t.u 0).c, .slice (t.u 1).a (t.u 1).n (t.u 1).c, .slice (t.u 2).a (t.u 2).n (t.u 2).c]), (.agg #[.slice (u 0).a (u 0).n (u 0).c, .slice (u 1).a (u 1).n (u 1).c, .slice (u 2).a (u 2).n (u 2).c]), .int .i64 2, .int .i64 2] w.drew (Ls.MoveOut w.drew (fillD d 2).F (fillG d.F G 2) 0)) := Lib.hid (Ls.move_ok w.drew.heap.size t.u u d.F G 2 2 (by decide) w.drew S4.out.hp.free S4.out.l3 (Nat.le_refl _) UN.out VN.out (by omega))
  have hle : b ≤ w.drew.heap.size := Nat.le_of_lt S4.out.b9.box.lt
  go_region_with ((go_at_call 114; refine HC.out.mono ?_; rintro e w6 ⟨v6, x6, rfl, hl6, hx6, hb6⟩; have S6 := S4.out.next hb6; have r2 := S6.b9.box.c2; have r3 := S6.b9.box.c3; have r4 := S6.b9.box.c4; have r6 := S6.b9.k6; have r7 := S6.b9.k7; have r8 := S6.b9.k8; have rl := S6.b9.box.lt; have f2 := S6.b9.free 2; have f3 := S6.b9.free 3; have f4 := S6.b9.free 4; have f6 := S6.b9.free 6; have f7 := S6.b9.free 7; have f8 := S6.b9.free 8; have L6 := Lib.hid hl6; have X6' := Lib.hid hx6; have B6 := Lib.hid (B4.out.trans (hb6.mono hle)); have S7 := Lib.hid S6; clear hl6 hx6 hb6 S6 q2 q3 q4 q6 q7 q8 ql))
  all_goals go_wp2
  all_goals go_ret
  all_goals exact ⟨rfl, fill_end S7.out L6.out X6'.out H3.out B6.out⟩
theorem fill_none2 (hs : Sto w b t u d G) (hf : Fit t) (hF : (t.u 2).n = 0) (h : Cl.findO d.f t.p.n 1 = none) :
    Calls Tryz.prog 86 #[.pointer (some ⟨b, 0, none⟩), .int .i64 2] w fun e w' => e = .returned (.bool false) ∧ Below w.heap.size w w' := by
  have q := hs.b9.box.c4
  have ql0 := hs.b9.box.lt
  rw [hF] at q
  have S3 := Lib.hid hs
  have HF' := Lib.hid hf
  have HN := Lib.hid h
  clear hs hF hf h
  go_enter Tryz.func86, Tryz.ntmps86
  go_wp2_with fail
  refine (split_none b t u d G 2 w S3.out HF'.out HN.out).mono ?_
  rintro e w1 ⟨rfl, hb1⟩
  go_wp2
  go_ret
  exact ⟨rfl, hb1⟩
theorem fill_split2 (p : Nat) (hs : Sto w b t u d G) (hz : Cl.Sz w) (h0 : 0 < b) (hf : Fit t) (hun : ∀ j, j < 3 → (t.u j).n ≤ 1000000) (hvn : ∀ j, j < 3 → (u j).n ≤ 2000000) (hF : (t.u 2).n = 0) (h : Cl.findO d.f t.p.n 1 = some p) :
    Calls Tryz.prog 86 #[.pointer (some ⟨b, 0, none⟩), .int .i64 2] w (Filled b w t (fillD (splitD d t.p.n 2 p) 2) (fillG (splitD d t.p.n 2 p).F G 2)) := by
  have q := hs.b9.box.c4
  have ql0 := hs.b9.box.lt
  rw [hF] at q
  have HS := Lib.hid hs
  have HF' := Lib.hid hf
  have HN := Lib.hid h
  have HZ := Lib.hid hz
  have HUN := Lib.hid hun
  have VN := Lib.hid hvn
  have HT := Lib.hid (fun (t' : Hs) (u' : Nat → Ls.Sl) (w' : World) (hs' : Sto w' b t' u' (splitD d t.p.n 2 p) G) => split_lens hs hs' hun)
  clear hs hF hf h hz hun hvn
  go_enter Tryz.func86, Tryz.ntmps86
  go_wp2_with fail
  refine (split_some b t u d G 2 w p HS.out HZ.out h0 HF'.out (by decide) (fun j hj => by have := HUN.out j hj; omega) HN.out).mono ?_
  rintro e w3 ⟨rfl, ⟨t', hs3, h3⟩, hb3⟩
  have S3 := Lib.hid hs3
  have UN := Lib.hid (HT.out t' u w3 hs3)
  have H3 := Lib.hid h3
  have B3 := Lib.hid hb3
  clear hs3 h3 hb3 q ql0
  have q2 := S3.out.b9.box.c2
  have q3 := S3.out.b9.box.c3
  have q4 := S3.out.b9.box.c4
  have q6 := S3.out.b9.k6
  have q7 := S3.out.b9.k7
  have q8 := S3.out.b9.k8
  have ql := S3.out.b9.box.lt
  go_wp2_with fail
  have S4 := Lib.hid (S3.out.next (below_drawn' (Below.refl _ _) 1))
  have B4 := Lib.hid (below_drawn' B3.out 1)
  have HC : Hid (Calls Tryz.prog 114 #[(.agg #[.slice (t'.u 0).a (t'.u 0).n (t'.u 0).c, .slice (t'.u 1).a (t'.u 1).n (t'.u 1).c, .slice (t'.u 2).a (t'.u 2).n (t'.u 2).c]), (.agg #[.slice (u 0).a (u 0).n (u 0).c, .slice (u 1).a (u 1).n (u 1).c, .slice (u 2).a (u 2).n (u 2).c]), .int .i64 2, .int .i64 2] w3.drew (Ls.MoveOut w3.drew (fillD (splitD d t.p.n 2 p) 2).F (fillG (splitD d t.p.n 2 p).F G 2) 0)) := Lib.hid (Ls.move_ok w3.drew.heap.size t'.u u (splitD d t.p.n 2 p).F G 2 2 (by decide) w3.drew S4.out.hp.free S4.out.l3 (Nat.le_refl _) UN.out VN.out (by omega))
  have hle : b ≤ w3.drew.heap.size := Nat.le_of_lt S4.out.b9.box.lt
  go_region_with ((go_at_call 114; refine HC.out.mono ?_; rintro e w6 ⟨v6, x6, rfl, hl6, hx6, hb6⟩; have S6 := S4.out.next hb6; have r2 := S6.b9.box.c2; have r3 := S6.b9.box.c3; have r4 := S6.b9.box.c4; have r6 := S6.b9.k6; have r7 := S6.b9.k7; have r8 := S6.b9.k8; have rl := S6.b9.box.lt; have f2 := S6.b9.free 2; have f3 := S6.b9.free 3; have f4 := S6.b9.free 4; have f6 := S6.b9.free 6; have f7 := S6.b9.free 7; have f8 := S6.b9.free 8; have L6 := Lib.hid hl6; have X6' := Lib.hid hx6; have B6 := Lib.hid (B4.out.trans (hb6.mono hle)); have S7 := Lib.hid S6; clear hl6 hx6 hb6 S6 q2 q3 q4 q6 q7 q8 ql))
  all_goals go_wp2
  all_goals go_ret
  all_goals exact ⟨rfl, fill_end S7.out L6.out X6'.out H3.out B6.out⟩
/-- The cache is filled, or it is told why not. -/
def fillO (d : Hd_) (n : Nat) (G : Nat → List Int) (k : Nat) : Option (Hd_ × (Nat → List Int)) :=
  if 0 < (d.F k).length then some (fillD d k, fillG d.F G k)
  else match Cl.findO d.f n 1 with
    | some p => some (fillD (splitD d n k p) k, fillG (splitD d n k p).F G k)
    | none => none
theorem smallO_fill (n k : Nat) : smallO d n G k = if 0 < (G k).length then some (d, G) else fillO d n G k := rfl
theorem fill_yes (k : Nat) (hk : k < 3) (q : Hd_ × (Nat → List Int)) (hs : Sto w b t u d G) (hz : Cl.Sz w) (h0 : 0 < b) (hf : Fit t) (hun : ∀ j, j < 3 → (t.u j).n ≤ 1000000) (hvn : ∀ j, j < 3 → (u j).n ≤ 2000000) (h : fillO d t.p.n G k = some q) :
    Calls Tryz.prog 86 #[.pointer (some ⟨b, 0, none⟩), .int .i64 k] w (Filled b w t q.1 q.2) := by
  have hl := hs.hp.free.len k hk
  unfold fillO at h
  split at h
  · next h1 =>
    cases h
    rcases (show k = 0 ∨ k = 1 ∨ k = 2 by omega) with rfl | rfl | rfl
    · exact fill_has0 b t u d G w hs (fun j hj => by have := hun j hj; omega) hvn (by omega)
    · exact fill_has1 b t u d G w hs (fun j hj => by have := hun j hj; omega) hvn (by omega)
    · exact fill_has2 b t u d G w hs (fun j hj => by have := hun j hj; omega) hvn (by omega)
  · split at h
    · next p hp =>
      cases h
      rcases (show k = 0 ∨ k = 1 ∨ k = 2 by omega) with rfl | rfl | rfl
      · exact fill_split0 b t u d G w p hs hz h0 hf hun hvn (by omega) hp
      · exact fill_split1 b t u d G w p hs hz h0 hf hun hvn (by omega) hp
      · exact fill_split2 b t u d G w p hs hz h0 hf hun hvn (by omega) hp
    · cases h
theorem fill_no (k : Nat) (hk : k < 3) (hs : Sto w b t u d G) (hf : Fit t) (h : fillO d t.p.n G k = none) :
    Calls Tryz.prog 86 #[.pointer (some ⟨b, 0, none⟩), .int .i64 k] w fun e w' => e = .returned (.bool false) ∧ Below w.heap.size w w' := by
  have hl := hs.hp.free.len k hk
  unfold fillO at h
  split at h
  · cases h
  · split at h
    · cases h
    · next hp =>
      rcases (show k = 0 ∨ k = 1 ∨ k = 2 by omega) with rfl | rfl | rfl
      · exact fill_none0 b t u d G w hs hf (by omega) hp
      · exact fill_none1 b t u d G w hs hf (by omega) hp
      · exact fill_none2 b t u d G w hs hf (by omega) hp
end
end Go.Proofs.YtdmclfolooiccaaGreatDoor
