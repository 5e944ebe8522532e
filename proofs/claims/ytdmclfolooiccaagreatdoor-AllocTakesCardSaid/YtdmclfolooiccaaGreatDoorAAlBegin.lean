/-
  Package alloc's begin: the cell's words are noughts, and the first one is the head's.
-/
import Derived.Test.YtdmclfolooiccaaGreatDoorHpAN
import Derived.Test.YtdmclfolooiccaaGreatDoorHpAL
namespace Go.Proofs.YtdmclfolooiccaaGreatDoor
open Go.RowKit
set_option maxRecDepth 100000

theorem room_bg (B : Nat) (A : Option Addr) (n c : Nat) (f : Nat → Int × Int) (a : Int) (w : World) (hn : n ≤ 1000) (hz : Cl.Sz w) (hr : Cl.PRow w B A n f) (hB : B ≤ w.heap.size) :
    Calls Tryz.prog 57 #[.slice A n c, .int .i64 a] w fun e w' => e = .returned (.int .i64 (Cl.bg f n a)) ∧ Below w.heap.size w w' := by
  rw [← Cl.bg_room]
  exact Cl.room_any B A n c f a w hn hz hr hB
/-- The object begins. -/
def Begun (b : Nat) (w : World) (t : Hs) (u : Nat → Ls.Sl) (d' : Hd_) (G : Nat → List Int) (e : Ending) (w' : World) : Prop :=
  e = .returned (.tuple #[]) ∧ (∃ t', Sto w' b t' u d' G ∧ Same3 t t') ∧ Below b w w'
theorem x6_same {W W' : World} {b : Nat} {x0 x1 x2 : Bool} {x3 x4 x5 : Int} (h : X6 W b x0 x1 x2 x3 x4 x5) (hs : W'.heap[b]? = W.heap[b]?) (hl : W.heap.size ≤ W'.heap.size) : X6 W' b x0 x1 x2 x3 x4 x5 :=
  ⟨(World.cell?_of_block (a := ⟨b, 0, none⟩) hs).trans h.c0, (World.cell?_of_block (a := ⟨b, 1, none⟩) hs).trans h.c1, (World.cell?_of_block (a := ⟨b, 2, none⟩) hs).trans h.c2, (World.cell?_of_block (a := ⟨b, 3, none⟩) hs).trans h.c3, (World.cell?_of_block (a := ⟨b, 4, none⟩) hs).trans h.c4, (World.cell?_of_block (a := ⟨b, 5, none⟩) hs).trans h.c5, Nat.lt_of_lt_of_le h.lt hl⟩
theorem begin_mid {b g cz bx : Nat} {w w2 : World} {t : Hs} {u : Nat → Ls.Sl} {d : Hd_} {G : Nat → List Int} {us o e : Bool} {N bo m : Int} {ws : List Int} {wb : Nat} (S : Sto w2 b t u d G) (B : Below b w w2) (X : X6 w2 bx us o e N bo m) (M : Mine w2 wb 3 g t.w.n cz ws) (hb : ¬ bx = b) :
    Sto (w2.setCell ⟨b, 0, none⟩ (.slice (some ⟨g, 0, none⟩) t.w.n cz)) b ⟨⟨some ⟨g, 0, none⟩, t.w.n, cz⟩, t.p, t.u, t.c⟩ u ⟨ws, d.f, d.F, d.cs⟩ G ∧ Below b w (w2.setCell ⟨b, 0, none⟩ (.slice (some ⟨g, 0, none⟩) t.w.n cz)) ∧ X6 (w2.setCell ⟨b, 0, none⟩ (.slice (some ⟨g, 0, none⟩) t.w.n cz)) bx us o e N bo m :=
  ⟨S.turn (S.b9.set 0 _ _ _ rfl rfl rfl rfl rfl rfl rfl rfl rfl) set_others set_size.symm ⟨M.row, S.hp.pages, S.hp.free, S.hp.cards⟩ S.l3 S.pc, B.setCell (p := ⟨b, 0, none⟩) (Nat.le_refl _) _, x6_same X (set_others _ hb) (by rw [set_size]; exact Nat.le_refl _)⟩
section
variable (b : Nat) (t : Hs) (u : Nat → Ls.Sl) (d : Hd_) (G : Nat → List Int) (w : World) (a x : Int) (us o e : Bool) (N bo m : Int)
set_option maxHeartbeats 2000000 in
theorem begin_ok (hs : Sto w b t u d G) (hz : Cl.Sz w) (h0 : 0 < b) (hf : Fit t) (ha : ¬ Cl.bg d.f t.p.n a = 0) (hx : Hd.mayB us o e N bo m = true) :
    Calls Tryz.prog 23 #[.pointer (some ⟨b, 0, none⟩), .int .i64 a, .agg #[.bool us, .bool o, .bool e, .int .i64 N, .int .i64 bo, .int .i64 m]] w (Begun b w t u (beginD d t.p.n a (Hd.word us o e N bo m)) G) := by
  have hp := hf.p
  have hce := cell_end ha
  have hwp := hf.wp
  have HZR : Hid (∀ w1, Sto w1 b t u d G → Calls Tryz.prog 56 #[.slice t.w.a t.w.n t.w.c, .int .i64 a, .int .i64 (Cl.bg d.f t.p.n a)] w1 (Ar.Made w1 t.w.n (Ar.wipe d.ws (a - 16).toNat (Cl.bg d.f t.p.n a).toNat))) := Lib.hid (fun w1 h1 => by
    have := Ar.zero_ok w1.heap.size t.w.a t.w.n t.w.c d.ws (a - 16).toNat (Cl.bg d.f t.p.n a).toNat w1 hf.w (by omega) (by omega) h1.hp.words
    rwa [show (16 : Int) + ((a - 16).toNat : Nat) = a by omega, show (((Cl.bg d.f t.p.n a).toNat : Nat) : Int) = Cl.bg d.f t.p.n a by omega] at this)
  have HPU : Hid (∀ w1 A c, Row w1 w1.heap.size A t.w.n (Ar.wipe d.ws (a - 16).toNat (Cl.bg d.f t.p.n a).toNat) → Calls Tryz.prog 59 #[.slice A t.w.n c, .int .i64 a, .int .i64 (Hd.word us o e N bo m)] w1 (Ar.Made w1 t.w.n (beginD d t.p.n a (Hd.word us o e N bo m)).ws)) := Lib.hid (fun w1 A c hr =>
    Ar.put_ok w1.heap.size A t.w.n c _ a (Hd.word us o e N bo m) w1 hf.w (by omega) (by omega) hr)
  have HRM : Hid (∀ w1, Cl.Sz w1 → Sto w1 b t u d G → Calls Tryz.prog 57 #[.slice t.p.a t.p.n t.p.c, .int .i64 a] w1 fun e w' => e = .returned (.int .i64 (Cl.bg d.f t.p.n a)) ∧ Below w1.heap.size w1 w') := Lib.hid (fun w1 hz1 h1 => room_bg w1.heap.size _ _ _ _ _ w1 (by omega) hz1 h1.hp.pages (Nat.le_refl _))
  have HX := Lib.hid hx
  have HZ := Lib.hid hz
  have HS := Lib.hid hs
  have hb0 : b < w.heap.size := hs.b9.box.lt
  obtain ⟨r, hr⟩ : ∃ r, r = Cl.bg d.f t.p.n a := ⟨_, rfl⟩
  obtain ⟨y, hy⟩ : ∃ y, y = Hd.word us o e N bo m := ⟨_, rfl⟩
  have HPK : Hid (∀ w1, Calls Tryz.prog 58 #[.agg #[.bool us, .bool o, .bool e, .int .i64 N, .int .i64 bo, .int .i64 m]] w1 fun e w' => e = .returned (.tuple #[.int .i64 y, .int .i64 0]) ∧ Below w1.heap.size w1 w') := Lib.hid (fun w1 => by rw [hy]; exact Hd.pack_yes _ _ _ _ _ _ w1 hx)
  clear hs hz hf ha hx hp hce hwp
  go_enter Tryz.func23, Tryz.ntmps23
  go_wp2_with fail
  obtain ⟨W0, hW0⟩ : ∃ W0, W0 = w.alloc (.cells #[.bool us, .bool o, .bool e, .int .i64 N, .int .i64 bo, .int .i64 m] 30) := ⟨_, rfl⟩
  have b0 : Below w.heap.size w W0 := by rw [hW0]; exact (Below.refl _ _).alloc (Nat.le_refl _) _
  have S0 := Lib.hid (HS.out.next b0)
  have X0 := X6.new w us o e N bo m 30
  rw [← hW0] at X0 ⊢
  have B0 := Lib.hid (b0.mono (Nat.le_of_lt hb0))
  have XB := Lib.hid X0
  have S1 : Hid (Sto W0.drew b t u d G) := Lib.hid (S0.out.next (below_drawn' (Below.refl _ _) 1))
  have Z1 : Hid (Cl.Sz W0.drew) := Lib.hid ((HZ.out.over B0.out h0).over (below_drawn' (Below.refl b W0) 1) h0)
  have C1 := Lib.hid (HRM.out W0.drew Z1.out S1.out)
  clear hW0 b0 X0 HS HZ
  rw [← hr] at HZR C1
  rw [← hy] at HPU ⊢
  have HR' := Lib.hid hr
  have HY' := Lib.hid hy
  clear hr hy
  have q0 := S0.out.b9.box.c0
  have q1 := S0.out.b9.box.c1
  have ql := S0.out.b9.box.lt
  go_region_with (first
    | ((go_at_call 57; refine C1.out.mono ?_; rintro e1 w1 ⟨rfl, hb1⟩; have S2 := Lib.hid (S1.out.next hb1); have XB2 := Lib.hid (XB.out.next (below_drawn' (Below.refl _ _) 1) |>.next hb1); have B2 := Lib.hid ((below_drawn' B0.out 1).trans (hb1.mono (Nat.le_of_lt S1.out.b9.box.lt))); have q0 := S2.out.b9.box.c0; have q1 := S2.out.b9.box.c1; have ql := S2.out.b9.box.lt; clear hb1))
    | ((go_at_call 56; refine (HZR.out w1 S2.out).mono ?_; rintro e2 w2 ⟨g, cz, rfl, hm2, hb2⟩; have S3 := Lib.hid (S2.out.next hb2); have XB3 := Lib.hid (XB2.out.next hb2); have B3 := Lib.hid (B2.out.trans (hb2.mono (Nat.le_of_lt S2.out.b9.box.lt))); have M3 := Lib.hid hm2; have r0 := S3.out.b9.box.c0; have rl := S3.out.b9.box.lt; have f0 := S3.out.b9.free 0; clear hb2 hm2)))
  all_goals
    have K3 := begin_mid S3.out B3.out XB3.out M3.out (show ¬ w.heap.size = b by omega)
    clear S3 B3 XB3 M3 r0 rl f0 q0 q1 ql
    obtain ⟨W3, hW3⟩ : ∃ W3, W3 = w2.setCell ⟨b, 0, none⟩ (.slice (some ⟨g, 0, none⟩) t.w.n cz) := ⟨_, rfl⟩
    rw [← hW3] at K3 ⊢
    clear hW3
    have S4 := Lib.hid K3.1
    have B4 := Lib.hid K3.2.1
    have X4 := Lib.hid K3.2.2
    clear K3
    have x0 := X4.out.c0
    have x1 := X4.out.c1
    have x2 := X4.out.c2
    have x3 := X4.out.c3
    have x4 := X4.out.c4
    have x5 := X4.out.c5
    have xl := X4.out.lt
    go_wp2_with fail
    refine (HPK.out W3).mono ?_
    rintro e4 w4 ⟨rfl, hb4⟩
    have S5 := Lib.hid (S4.out.next hb4)
    have B5 := Lib.hid (B4.out.trans (hb4.mono (Nat.le_of_lt S4.out.b9.box.lt)))
    clear hb4 S4 B4 X4 x0 x1 x2 x3 x4 x5 xl
    have q0 := S5.out.b9.box.c0
    have ql := S5.out.b9.box.lt
    dsimp only at q0
    go_wp2_with fail
    refine (HPU.out w4 (some ⟨g, 0, none⟩) cz (by rw [← HR'.out]; exact S5.out.hp.words)).mono ?_
    rintro e5 w5 ⟨g5, c5, rfl, hm5, hb5⟩
    have S6 := Lib.hid (S5.out.next hb5)
    have B6 := Lib.hid (B5.out.trans (hb5.mono (Nat.le_of_lt S5.out.b9.box.lt)))
    have M6 := Lib.hid hm5
    clear hm5 hb5 S5 B5 q0 ql
    have r0 := S6.out.b9.box.c0
    have rl := S6.out.b9.box.lt
    have f0 := S6.out.b9.free 0
    dsimp only at r0
    go_wp2
    go_end0
    exact ⟨rfl, ⟨⟨⟨some ⟨g5, 0, none⟩, t.w.n, c5⟩, t.p, t.u, t.c⟩, S6.out.turn (S6.out.b9.set 0 _ _ _ rfl rfl rfl rfl rfl rfl rfl rfl rfl) set_others set_size.symm ⟨by rw [← HY'.out]; exact M6.out.row, S6.out.hp.pages, S6.out.hp.free, S6.out.hp.cards⟩ S6.out.l3 S6.out.pc, rfl, rfl, rfl⟩, B6.out.setCell (p := ⟨b, 0, none⟩) (Nat.le_refl _) _⟩
end
end Go.Proofs.YtdmclfolooiccaaGreatDoor
