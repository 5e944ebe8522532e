/-
  Merged texts: RpRefB, HpSetA, HpSetRA, HpSetR, RpRefO, AlOn, AlSto, AlSplit, AlLarge.
-/
import Derived.Test.YtmalopciboikhaaGreatDoorHpRI
import Derived.Test.YtmalopciboikhaaGreatDoorHpRK
import Derived.Test.YtmalopciboikhaaGreatDoorHpRC
import Derived.Test.YtmalopciboikhaaGreatDoorHpRH
import Derived.Test.YtmalopciboikhaaGreatDoorHpRG
import Derived.Test.YtmalopciboikhaaGreatDoorRRpFree
import Derived.Test.YtmalopciboikhaaGreatDoorHpRE
section
namespace Go.Proofs.YtmalopciboikhaaGreatDoor
open Go.RowKit
set_option maxRecDepth 100000

theorem res_back {W : World} {b : Nat} {tm : Array Value} {v0 v1 v2 v3 v4 v5 : Value} (ht : tm[4]? = some (.pointer (some ⟨b, 0, none⟩))) (k0 : W.cell? ⟨b, 0, none⟩ = some v0) (k1 : W.cell? ⟨b, 1, none⟩ = some v1) (k2 : W.cell? ⟨b, 2, none⟩ = some v2) (k3 : W.cell? ⟨b, 3, none⟩ = some v3) (k4 : W.cell? ⟨b, 4, none⟩ = some v4) (k5 : W.cell? ⟨b, 5, none⟩ = some v5) :
    (results Tryz.f68 tm).run Tryz.prog W = .ok (.agg #[v0, v1, v2, v3, v4, v5]) W := by
  simp [results, Tryz.results68, go_sem, ht, k0, k1, k2, k3, k4, k5]
section
variable (s : Hs) (d : Hd_) (p : Nat) (w : World)
set_option maxHeartbeats 2000000 in
theorem rback_other (hp : Hp w w.heap.size s d) (hpn : p < s.p.n) (hk : ¬ (d.f p).1 = 1) : Calls Tryz.prog 68 #[(.agg #[.slice s.w.a s.w.n s.w.c, .slice s.p.a s.p.n s.p.c, .slice (s.u 0).a (s.u 0).n (s.u 0).c, .slice (s.u 1).a (s.u 1).n (s.u 1).c, .slice (s.u 2).a (s.u 2).n (s.u 2).c, .slice s.c.a s.c.n s.c.c]), .int .i64 (p : Int)] w (RoOut w s d) := by
  obtain ⟨b, off, e, hb, hc⟩ := hp.pages (show 0 < s.p.n by omega)
  obtain ⟨c0, c1⟩ := hc p hpn
  have HP := Lib.hid hp
  obtain ⟨⟨aw, nw, cw⟩, ⟨ap, np, cp⟩, su, ⟨ac, nc, cc⟩⟩ := s
  dsimp only at e hpn
  subst e
  have d1 : ((d.f p).1 != 1) = true := by simp [hk]
  obtain ⟨pk, hpk⟩ : ∃ pk, pk = (d.f p).1 := ⟨_, rfl⟩
  obtain ⟨pa, hpa⟩ : ∃ pa, pa = (d.f p).2 := ⟨_, rfl⟩
  rw [← hpk] at c0 d1
  rw [← hpa] at c1
  have i0 : (0 : Int) ≤ (p : Int) := by omega
  have i1 : (p : Int) < np := by omega
  have C0 := Lib.hid c0
  have C1 := Lib.hid c1
  have HB := Lib.hid hb
  clear hp hk hc hpk hpa c0 c1 hb hpn
  go_enter Tryz.func68, Tryz.ntmps68
  go_upto_region 1 with fail
  obtain ⟨W0, hW0⟩ : ∃ W0, W0 = (w.alloc (.cells #[.slice (⟨⟨aw, nw, cw⟩, ⟨some ⟨b, off, none⟩, np, cp⟩, su, ⟨ac, nc, cc⟩⟩ : Hs).w.a (⟨⟨aw, nw, cw⟩, ⟨some ⟨b, off, none⟩, np, cp⟩, su, ⟨ac, nc, cc⟩⟩ : Hs).w.n (⟨⟨aw, nw, cw⟩, ⟨some ⟨b, off, none⟩, np, cp⟩, su, ⟨ac, nc, cc⟩⟩ : Hs).w.c, .slice (⟨⟨aw, nw, cw⟩, ⟨some ⟨b, off, none⟩, np, cp⟩, su, ⟨ac, nc, cc⟩⟩ : Hs).p.a (⟨⟨aw, nw, cw⟩, ⟨some ⟨b, off, none⟩, np, cp⟩, su, ⟨ac, nc, cc⟩⟩ : Hs).p.n (⟨⟨aw, nw, cw⟩, ⟨some ⟨b, off, none⟩, np, cp⟩, su, ⟨ac, nc, cc⟩⟩ : Hs).p.c, .slice ((⟨⟨aw, nw, cw⟩, ⟨some ⟨b, off, none⟩, np, cp⟩, su, ⟨ac, nc, cc⟩⟩ : Hs).u 0).a ((⟨⟨aw, nw, cw⟩, ⟨some ⟨b, off, none⟩, np, cp⟩, su, ⟨ac, nc, cc⟩⟩ : Hs).u 0).n ((⟨⟨aw, nw, cw⟩, ⟨some ⟨b, off, none⟩, np, cp⟩, su, ⟨ac, nc, cc⟩⟩ : Hs).u 0).c, .slice ((⟨⟨aw, nw, cw⟩, ⟨some ⟨b, off, none⟩, np, cp⟩, su, ⟨ac, nc, cc⟩⟩ : Hs).u 1).a ((⟨⟨aw, nw, cw⟩, ⟨some ⟨b, off, none⟩, np, cp⟩, su, ⟨ac, nc, cc⟩⟩ : Hs).u 1).n ((⟨⟨aw, nw, cw⟩, ⟨some ⟨b, off, none⟩, np, cp⟩, su, ⟨ac, nc, cc⟩⟩ : Hs).u 1).c, .slice ((⟨⟨aw, nw, cw⟩, ⟨some ⟨b, off, none⟩, np, cp⟩, su, ⟨ac, nc, cc⟩⟩ : Hs).u 2).a ((⟨⟨aw, nw, cw⟩, ⟨some ⟨b, off, none⟩, np, cp⟩, su, ⟨ac, nc, cc⟩⟩ : Hs).u 2).n ((⟨⟨aw, nw, cw⟩, ⟨some ⟨b, off, none⟩, np, cp⟩, su, ⟨ac, nc, cc⟩⟩ : Hs).u 2).c, .slice (⟨⟨aw, nw, cw⟩, ⟨some ⟨b, off, none⟩, np, cp⟩, su, ⟨ac, nc, cc⟩⟩ : Hs).c.a (⟨⟨aw, nw, cw⟩, ⟨some ⟨b, off, none⟩, np, cp⟩, su, ⟨ac, nc, cc⟩⟩ : Hs).c.n (⟨⟨aw, nw, cw⟩, ⟨some ⟨b, off, none⟩, np, cp⟩, su, ⟨ac, nc, cc⟩⟩ : Hs).c.c] 28)).alloc (.cells #[.slice none 0 0, .slice none 0 0, .slice none 0 0, .slice none 0 0, .slice none 0 0, .slice none 0 0] 28) := ⟨_, rfl⟩
  have R0 := two_rooms HP.out hW0
  dsimp only at hW0
  rw [← hW0]
  have R1 := Lib.hid R0.1
  have R2 := Lib.hid R0.2
  clear hW0 R0
  have q0 := (R1.out.rm.box.box).c0
  have q1 := (R1.out.rm.box.box).c1
  have q2 := (R1.out.rm.box.box).c2
  have q3 := (R1.out.rm.box.box).c3
  have q4 := (R1.out.rm.box.box).c4
  have q5 := (R1.out.rm.box.box).c5
  have ql := (R1.out.rm.box.box).lt
  have x0 := (R2.out.box.box).c0
  have x1 := (R2.out.box.box).c1
  have x2 := (R2.out.box.box).c2
  have x3 := (R2.out.box.box).c3
  have x4 := (R2.out.box.box).c4
  have x5 := (R2.out.box.box).c5
  have xl := (R2.out.box.box).lt
  have z0 := (R2.out.box).free 0
  have z1 := (R2.out.box).free 1
  have z2 := (R2.out.box).free 2
  have z3 := (R2.out.box).free 3
  have z4 := (R2.out.box).free 4
  have z5 := (R2.out.box).free 5
  dsimp only [noHs, Ls.noSl] at x0 x1 x2 x3 x4 x5 q0 q1 q2 q3 q4 q5
  have c0 := (R1.out.bel.cell (p := ⟨b, off + p * 2, none⟩) HB.out).trans C0.out
  have c1 := (R1.out.bel.cell (p := ⟨b, off + p * 2 + 1, none⟩) HB.out).trans C1.out
  have cl : b < W0.heap.size := Nat.lt_of_lt_of_le HB.out R1.out.bel.size
  go_upto_region 2 with fail
  obtain ⟨W1, hW1⟩ : ∃ W1, W1 = W0.alloc (.cells #[.int .i64 pk, .int .i64 pa] 76) := ⟨_, rfl⟩
  have b2 : Below W0.heap.size W0 W1 := by rw [hW1]; exact (Below.refl _ _).alloc (Nat.le_refl _) _
  have p0 : W1.cell? ⟨W0.heap.size, 0, none⟩ = some (.int .i64 pk) := by rw [hW1]; simp [go_sem]
  have pl : W0.heap.size < W1.heap.size := by rw [hW1]; simp
  rw [← hW1]
  have R3 := Lib.hid (R1.out.next b2)
  have R4 := Lib.hid (R2.out.next b2)
  clear b2 hW1 c0 c1 cl z0 z1 z2 z3 z4 z5
  clear q0 q1 q2 q3 q4 q5 ql
  clear x0 x1 x2 x3 x4 x5 xl
  have q0 := (R3.out.rm.box.box).c0
  have q1 := (R3.out.rm.box.box).c1
  have q2 := (R3.out.rm.box.box).c2
  have q3 := (R3.out.rm.box.box).c3
  have q4 := (R3.out.rm.box.box).c4
  have q5 := (R3.out.rm.box.box).c5
  have ql := (R3.out.rm.box.box).lt
  have x0 := (R4.out.box.box).c0
  have x1 := (R4.out.box.box).c1
  have x2 := (R4.out.box.box).c2
  have x3 := (R4.out.box.box).c3
  have x4 := (R4.out.box.box).c4
  have x5 := (R4.out.box.box).c5
  have xl := (R4.out.box.box).lt
  have z0 := (R4.out.box).free 0
  have z1 := (R4.out.box).free 1
  have z2 := (R4.out.box).free 2
  have z3 := (R4.out.box).free 3
  have z4 := (R4.out.box).free 4
  have z5 := (R4.out.box).free 5
  dsimp only [noHs, Ls.noSl] at x0 x1 x2 x3 x4 x5 q0 q1 q2 q3 q4 q5
  go_wp2
  refine bodyPost_ret (v := (.agg #[.slice (⟨⟨aw, nw, cw⟩, ⟨some ⟨b, off, none⟩, np, cp⟩, su, ⟨ac, nc, cc⟩⟩ : Hs).w.a (⟨⟨aw, nw, cw⟩, ⟨some ⟨b, off, none⟩, np, cp⟩, su, ⟨ac, nc, cc⟩⟩ : Hs).w.n (⟨⟨aw, nw, cw⟩, ⟨some ⟨b, off, none⟩, np, cp⟩, su, ⟨ac, nc, cc⟩⟩ : Hs).w.c, .slice (⟨⟨aw, nw, cw⟩, ⟨some ⟨b, off, none⟩, np, cp⟩, su, ⟨ac, nc, cc⟩⟩ : Hs).p.a (⟨⟨aw, nw, cw⟩, ⟨some ⟨b, off, none⟩, np, cp⟩, su, ⟨ac, nc, cc⟩⟩ : Hs).p.n (⟨⟨aw, nw, cw⟩, ⟨some ⟨b, off, none⟩, np, cp⟩, su, ⟨ac, nc, cc⟩⟩ : Hs).p.c, .slice ((⟨⟨aw, nw, cw⟩, ⟨some ⟨b, off, none⟩, np, cp⟩, su, ⟨ac, nc, cc⟩⟩ : Hs).u 0).a ((⟨⟨aw, nw, cw⟩, ⟨some ⟨b, off, none⟩, np, cp⟩, su, ⟨ac, nc, cc⟩⟩ : Hs).u 0).n ((⟨⟨aw, nw, cw⟩, ⟨some ⟨b, off, none⟩, np, cp⟩, su, ⟨ac, nc, cc⟩⟩ : Hs).u 0).c, .slice ((⟨⟨aw, nw, cw⟩, ⟨some ⟨b, off, none⟩, np, cp⟩, su, ⟨ac, nc, cc⟩⟩ : Hs).u 1).a ((⟨⟨aw, nw, cw⟩, ⟨some ⟨b, off, none⟩, np, cp⟩, su, ⟨ac, nc, cc⟩⟩ : Hs).u 1).n ((⟨⟨aw, nw, cw⟩, ⟨some ⟨b, off, none⟩, np, cp⟩, su, ⟨ac, nc, cc⟩⟩ : Hs).u 1).c, .slice ((⟨⟨aw, nw, cw⟩, ⟨some ⟨b, off, none⟩, np, cp⟩, su, ⟨ac, nc, cc⟩⟩ : Hs).u 2).a ((⟨⟨aw, nw, cw⟩, ⟨some ⟨b, off, none⟩, np, cp⟩, su, ⟨ac, nc, cc⟩⟩ : Hs).u 2).n ((⟨⟨aw, nw, cw⟩, ⟨some ⟨b, off, none⟩, np, cp⟩, su, ⟨ac, nc, cc⟩⟩ : Hs).u 2).c, .slice (⟨⟨aw, nw, cw⟩, ⟨some ⟨b, off, none⟩, np, cp⟩, su, ⟨ac, nc, cc⟩⟩ : Hs).c.a (⟨⟨aw, nw, cw⟩, ⟨some ⟨b, off, none⟩, np, cp⟩, su, ⟨ac, nc, cc⟩⟩ : Hs).c.n (⟨⟨aw, nw, cw⟩, ⟨some ⟨b, off, none⟩, np, cp⟩, su, ⟨ac, nc, cc⟩⟩ : Hs).c.c])) ?_ rfl (res_end (t := ⟨⟨aw, nw, cw⟩, ⟨some ⟨b, off, none⟩, np, cp⟩, su, ⟨ac, nc, cc⟩⟩) R3.out.bel R3.out.hp R4.out (by omega) ⟨rfl, rfl, rfl⟩)
  obtain ⟨k0, k1, k2, k3, k4, k5⟩ := put6_at R4.out.box (.slice aw nw cw) (.slice (some ⟨b, off, none⟩) np cp) (.slice (su 0).a (su 0).n (su 0).c) (.slice (su 1).a (su 1).n (su 1).c) (.slice (su 2).a (su 2).n (su 2).c) (.slice ac nc cc)
  exact res_back rfl k0 k1 k2 k3 k4 k5
set_option maxHeartbeats 4000000 in
theorem rback_small (k : Nat) (hk : k < 3) (hkind : d.f p = (1, (k : Int))) (hp : Hp w w.heap.size s d) (hpn : p < s.p.n) (hf : Fit s) (hm : Cl.mayB d.f s.p.n = true) (hcn : s.c.n ≤ 100000) (hu : ∀ j, j < 3 → (s.u j).n ≤ 2000000) : Calls Tryz.prog 68 #[(.agg #[.slice s.w.a s.w.n s.w.c, .slice s.p.a s.p.n s.p.c, .slice (s.u 0).a (s.u 0).n (s.u 0).c, .slice (s.u 1).a (s.u 1).n (s.u 1).c, .slice (s.u 2).a (s.u 2).n (s.u 2).c, .slice s.c.a s.c.n s.c.c]), .int .i64 (p : Int)] w (RoOut w s (backD d p)) := by
  obtain ⟨b, off, e, hb, hc⟩ := hp.pages (show 0 < s.p.n by omega)
  obtain ⟨c0, c1⟩ := hc p hpn
  have h64 := hf.p
  have hwp := hf.wp
  have eo : onFree d p = Ls.inOf (16 + 16 * (p : Int)) (32 + 16 * (p : Int)) (d.F k) := by unfold onFree; rw [hkind]; rfl
  have HPT : Hid (∀ W, Below w.heap.size w W → Calls Tryz.prog 117 #[(.agg #[.slice (s.u 0).a (s.u 0).n (s.u 0).c, .slice (s.u 1).a (s.u 1).n (s.u 1).c, .slice (s.u 2).a (s.u 2).n (s.u 2).c]), .int .i64 (k : Int), .int .i64 (16 + 16 * (p : Int)), .int .i64 (32 + 16 * (p : Int))] W (Ls.PartOut W (Ls.upd d.F k (Ls.outOf (16 + 16 * (p : Int)) (32 + 16 * (p : Int)) (d.F k))) (onFree d p) 0)) := Lib.hid (fun W hb => by
    have := Ls.rpart_ok w.heap.size s.u d.F k hk (16 + 16 * (p : Int)) (32 + 16 * (p : Int)) W (fun j hj => ⟨(hp.free j hj).1.below hb, (hp.free j hj).2⟩) hb.size hu
    rw [← eo] at this
    exact this)
  obtain ⟨m, hmm⟩ : ∃ m, m = Cl.perPage (k : Int) := ⟨_, rfl⟩
  have HC : Hid (∀ W, Calls Tryz.prog 118 #[.int .i64 (k : Int)] W fun e w' => e = .returned (.int .i64 m) ∧ W = w') := Lib.hid (fun W => by rw [hmm]; exact Cl.rcells_of _ W)
  have HO : Hid (∀ W, Below w.heap.size w W → Calls Tryz.prog 8 #[(.agg #[.slice s.w.a s.w.n s.w.c, .slice s.p.a s.p.n s.p.c, .slice (s.u 0).a (s.u 0).n (s.u 0).c, .slice (s.u 1).a (s.u 1).n (s.u 1).c, .slice (s.u 2).a (s.u 2).n (s.u 2).c, .slice s.c.a s.c.n s.c.c])] W (OwnOut W s d)) := Lib.hid (fun W hb => rown7_any s d W (hp.next hb) (by omega) (by omega) hcn (fun j hj => Nat.le_trans (hu j hj) (by decide)))
  have HDR : Hid (∀ W, Below w.heap.size w W → Calls Tryz.prog 67 #[.slice s.p.a s.p.n s.p.c, .int .i64 (p : Int)] W fun e w' => ∃ A c, e = .returned (.tuple #[.slice A s.p.n c, .int .i64 0]) ∧ Cl.PRow w' w'.heap.size A s.p.n (Cl.drop d.f p) ∧ s.p.n ≤ c ∧ Below W.heap.size W w') := Lib.hid (fun W hb => by
    have := Cl.rdrop_any w.heap.size s.p.a s.p.n s.p.c d.f (p : Int) W (by omega) (hp.pages.below hb) hb.size
    rw [drop_fine hm hpn (.inl (by rw [hkind]))] at this
    exact this.mono fun _ _ h => tout_zero h)
  have HE1 : Hid (((onFree d p).length : Int) < m → backD d p = d) := Lib.hid (fun h => back_less (by rw [hkind]; rw [← hmm]; exact h))
  have HE2 : Hid (m ≤ ((onFree d p).length : Int) → backD d p = ⟨d.ws, Cl.drop d.f p, Ls.upd d.F k (Ls.outOf (16 + 16 * (p : Int)) (32 + 16 * (p : Int)) (d.F k)), d.cs⟩) := Lib.hid (fun h => by
    rw [back_yes (by rw [hkind]) (by rw [hkind]; rw [← hmm]; exact Int.not_lt.2 h)]
    unfold gaveD
    rw [hkind]
    rfl)
  have HP := Lib.hid hp
  obtain ⟨⟨aw, nw, cw⟩, ⟨ap, np, cp⟩, su, ⟨ac, nc, cc⟩⟩ := s
  dsimp only at e hpn h64 hwp
  subst e
  rw [hkind] at c0 c1
  have i0 : (0 : Int) ≤ (p : Int) := by omega
  have i1 : (p : Int) < np := by omega
  have i2 : (p : Int) ≤ 64 := by omega
  have C0 := Lib.hid c0
  have C1 := Lib.hid c1
  have HB := Lib.hid hb
  have wa : IntKind.i64.wrap (16 * (p : Int)) = 16 * p := by simp [IntKind.wrap, IntKind.signed, IntKind.bits]; omega
  have wb : IntKind.i64.wrap (16 + 16 * (p : Int)) = 16 + 16 * p := by simp [IntKind.wrap, IntKind.signed, IntKind.bits]; omega
  have wc : IntKind.i64.wrap (32 + 16 * (p : Int)) = 32 + 16 * p := by simp [IntKind.wrap, IntKind.signed, IntKind.bits]; omega
  clear hp hc c0 c1 hb hpn hf hm hcn hu eo hwp h64 hmm hkind
  dsimp only at HPT HDR HO
  go_enter Tryz.func68, Tryz.ntmps68
  go_upto_region 1 with fail
  obtain ⟨W0, hW0⟩ : ∃ W0, W0 = (w.alloc (.cells #[.slice (⟨⟨aw, nw, cw⟩, ⟨some ⟨b, off, none⟩, np, cp⟩, su, ⟨ac, nc, cc⟩⟩ : Hs).w.a (⟨⟨aw, nw, cw⟩, ⟨some ⟨b, off, none⟩, np, cp⟩, su, ⟨ac, nc, cc⟩⟩ : Hs).w.n (⟨⟨aw, nw, cw⟩, ⟨some ⟨b, off, none⟩, np, cp⟩, su, ⟨ac, nc, cc⟩⟩ : Hs).w.c, .slice (⟨⟨aw, nw, cw⟩, ⟨some ⟨b, off, none⟩, np, cp⟩, su, ⟨ac, nc, cc⟩⟩ : Hs).p.a (⟨⟨aw, nw, cw⟩, ⟨some ⟨b, off, none⟩, np, cp⟩, su, ⟨ac, nc, cc⟩⟩ : Hs).p.n (⟨⟨aw, nw, cw⟩, ⟨some ⟨b, off, none⟩, np, cp⟩, su, ⟨ac, nc, cc⟩⟩ : Hs).p.c, .slice ((⟨⟨aw, nw, cw⟩, ⟨some ⟨b, off, none⟩, np, cp⟩, su, ⟨ac, nc, cc⟩⟩ : Hs).u 0).a ((⟨⟨aw, nw, cw⟩, ⟨some ⟨b, off, none⟩, np, cp⟩, su, ⟨ac, nc, cc⟩⟩ : Hs).u 0).n ((⟨⟨aw, nw, cw⟩, ⟨some ⟨b, off, none⟩, np, cp⟩, su, ⟨ac, nc, cc⟩⟩ : Hs).u 0).c, .slice ((⟨⟨aw, nw, cw⟩, ⟨some ⟨b, off, none⟩, np, cp⟩, su, ⟨ac, nc, cc⟩⟩ : Hs).u 1).a ((⟨⟨aw, nw, cw⟩, ⟨some ⟨b, off, none⟩, np, cp⟩, su, ⟨ac, nc, cc⟩⟩ : Hs).u 1).n ((⟨⟨aw, nw, cw⟩, ⟨some ⟨b, off, none⟩, np, cp⟩, su, ⟨ac, nc, cc⟩⟩ : Hs).u 1).c, .slice ((⟨⟨aw, nw, cw⟩, ⟨some ⟨b, off, none⟩, np, cp⟩, su, ⟨ac, nc, cc⟩⟩ : Hs).u 2).a ((⟨⟨aw, nw, cw⟩, ⟨some ⟨b, off, none⟩, np, cp⟩, su, ⟨ac, nc, cc⟩⟩ : Hs).u 2).n ((⟨⟨aw, nw, cw⟩, ⟨some ⟨b, off, none⟩, np, cp⟩, su, ⟨ac, nc, cc⟩⟩ : Hs).u 2).c, .slice (⟨⟨aw, nw, cw⟩, ⟨some ⟨b, off, none⟩, np, cp⟩, su, ⟨ac, nc, cc⟩⟩ : Hs).c.a (⟨⟨aw, nw, cw⟩, ⟨some ⟨b, off, none⟩, np, cp⟩, su, ⟨ac, nc, cc⟩⟩ : Hs).c.n (⟨⟨aw, nw, cw⟩, ⟨some ⟨b, off, none⟩, np, cp⟩, su, ⟨ac, nc, cc⟩⟩ : Hs).c.c] 28)).alloc (.cells #[.slice none 0 0, .slice none 0 0, .slice none 0 0, .slice none 0 0, .slice none 0 0, .slice none 0 0] 28) := ⟨_, rfl⟩
  have R0 := two_rooms HP.out hW0
  dsimp only at hW0
  rw [← hW0]
  have R1 := Lib.hid R0.1
  have R2 := Lib.hid R0.2
  clear hW0 R0
  have q0 := (R1.out.rm.box.box).c0
  have q1 := (R1.out.rm.box.box).c1
  have q2 := (R1.out.rm.box.box).c2
  have q3 := (R1.out.rm.box.box).c3
  have q4 := (R1.out.rm.box.box).c4
  have q5 := (R1.out.rm.box.box).c5
  have ql := (R1.out.rm.box.box).lt
  dsimp only at q0 q1 q2 q3 q4 q5
  have c0 := (R1.out.bel.cell (p := ⟨b, off + p * 2, none⟩) HB.out).trans C0.out
  have c1 := (R1.out.bel.cell (p := ⟨b, off + p * 2 + 1, none⟩) HB.out).trans C1.out
  have cl : b < W0.heap.size := Nat.lt_of_lt_of_le HB.out R1.out.bel.size
  go_upto_region 2 with fail
  obtain ⟨W1, hW1⟩ : ∃ W1, W1 = W0.alloc (.cells #[.int .i64 1, .int .i64 (k : Int)] 76) := ⟨_, rfl⟩
  have b2 : Below W0.heap.size W0 W1 := by rw [hW1]; exact (Below.refl _ _).alloc (Nat.le_refl _) _
  have p0 : W1.cell? ⟨W0.heap.size, 0, none⟩ = some (.int .i64 1) := by rw [hW1]; simp [go_sem]
  have p1 : W1.cell? ⟨W0.heap.size, 1, none⟩ = some (.int .i64 (k : Int)) := by rw [hW1]; simp [go_sem]
  have pl : W0.heap.size < W1.heap.size := by rw [hW1]; simp
  rw [← hW1]
  clear hW1 c0 c1 cl
  clear q0 q1 q2 q3 q4 q5 ql
  have R3 := Lib.hid (R1.out.next b2)
  have R4 := Lib.hid (R2.out.next b2)
  clear b2 R1 R2
  have q0 := (R3.out.rm.box.box).c0
  have q1 := (R3.out.rm.box.box).c1
  have q2 := (R3.out.rm.box.box).c2
  have q3 := (R3.out.rm.box.box).c3
  have q4 := (R3.out.rm.box.box).c4
  have q5 := (R3.out.rm.box.box).c5
  have ql := (R3.out.rm.box.box).lt
  dsimp only at q0 q1 q2 q3 q4 q5
  go_wp2_with fail
  refine (HPT.out W1 R3.out.bel).mono ?_
  rintro e9 w3 ⟨u, v, rfl, hl3, hrow, hb3⟩
  have R5 := R3.out.next hb3
  have R6 := R4.out.next hb3
  have p2 := (hb3.cell (p := ⟨W0.heap.size, 1, none⟩) pl).trans p1
  have pl2 : W0.heap.size < w3.heap.size := Nat.lt_of_lt_of_le pl hb3.size
  have hvn : ((onFree d p).length : Int) = v.n := by rw [hrow.1.1]
  rw [hvn] at HE1 HE2
  have U3 := Lib.hid hl3
  clear hl3 hrow hb3 p0 p1 pl hvn R3 R4
  clear q0 q1 q2 q3 q4 q5 ql
  obtain ⟨W4, hW4⟩ : ∃ W4, W4 = w3.alloc (.cells #[.slice (u 0).a (u 0).n (u 0).c, .slice (u 1).a (u 1).n (u 1).c, .slice (u 2).a (u 2).n (u 2).c] 25) := ⟨_, rfl⟩
  have b4 : Below w3.heap.size w3 W4 := by rw [hW4]; exact (Below.refl _ _).alloc (Nat.le_refl _) _
  have B4 : Ls.Box3 W4 w3.heap.size u := by rw [hW4]; exact Ls.Box3.new w3 u _
  have R7 := Lib.hid (R5.next b4)
  have R8 := Lib.hid (R6.next b4)
  have U4 := Lib.hid (Ls.L3.next U3.out b4)
  have p3 := (b4.cell (p := ⟨W0.heap.size, 1, none⟩) pl2).trans p2
  have pl3 : W0.heap.size < W4.heap.size := Nat.lt_of_lt_of_le pl2 b4.size
  have BU := Lib.hid B4
  have u0 := B4.cell 0 (by decide)
  have u1 := B4.cell 1 (by decide)
  have u2 := B4.cell 2 (by decide)
  have ul := B4.lt
  go_wp2_with fail
  rw [← hW4]
  clear hW4 b4 B4 p2 pl2 R5 R6 U3
  refine (HC.out W4).mono ?_
  rintro e9 w5 ⟨rfl, rfl⟩
  clear p3 pl3
  have q0 := (R7.out.rm.box.box).c0
  have q1 := (R7.out.rm.box.box).c1
  have q2 := (R7.out.rm.box.box).c2
  have q3 := (R7.out.rm.box.box).c3
  have q4 := (R7.out.rm.box.box).c4
  have q5 := (R7.out.rm.box.box).c5
  have ql := (R7.out.rm.box.box).lt
  have y0 := (R7.out.rm.box).free 0
  have y1 := (R7.out.rm.box).free 1
  have y2 := (R7.out.rm.box).free 2
  have y3 := (R7.out.rm.box).free 3
  have y4 := (R7.out.rm.box).free 4
  have y5 := (R7.out.rm.box).free 5
  have x0 := (R8.out.box.box).c0
  have x1 := (R8.out.box.box).c1
  have x2 := (R8.out.box.box).c2
  have x3 := (R8.out.box.box).c3
  have x4 := (R8.out.box.box).c4
  have x5 := (R8.out.box.box).c5
  have xl := (R8.out.box.box).lt
  have z0 := (R8.out.box).free 0
  have z1 := (R8.out.box).free 1
  have z2 := (R8.out.box).free 2
  have z3 := (R8.out.box).free 3
  have z4 := (R8.out.box).free 4
  have z5 := (R8.out.box).free 5
  dsimp only [noHs, Ls.noSl] at x0 x1 x2 x3 x4 x5 q0 q1 q2 q3 q4 q5
  by_cases hlt : (v.n : Int) < m
  · have d1 : decide ((v.n : Int) < m) = true := by simpa using hlt
    have E := Lib.hid (HE1.out hlt)
    clear hlt HE1 HE2 u0 u1 u2 ul
    go_wp2
    refine bodyPost_ret (v := (.agg #[.slice (⟨⟨aw, nw, cw⟩, ⟨some ⟨b, off, none⟩, np, cp⟩, su, ⟨ac, nc, cc⟩⟩ : Hs).w.a (⟨⟨aw, nw, cw⟩, ⟨some ⟨b, off, none⟩, np, cp⟩, su, ⟨ac, nc, cc⟩⟩ : Hs).w.n (⟨⟨aw, nw, cw⟩, ⟨some ⟨b, off, none⟩, np, cp⟩, su, ⟨ac, nc, cc⟩⟩ : Hs).w.c, .slice (⟨⟨aw, nw, cw⟩, ⟨some ⟨b, off, none⟩, np, cp⟩, su, ⟨ac, nc, cc⟩⟩ : Hs).p.a (⟨⟨aw, nw, cw⟩, ⟨some ⟨b, off, none⟩, np, cp⟩, su, ⟨ac, nc, cc⟩⟩ : Hs).p.n (⟨⟨aw, nw, cw⟩, ⟨some ⟨b, off, none⟩, np, cp⟩, su, ⟨ac, nc, cc⟩⟩ : Hs).p.c, .slice ((⟨⟨aw, nw, cw⟩, ⟨some ⟨b, off, none⟩, np, cp⟩, su, ⟨ac, nc, cc⟩⟩ : Hs).u 0).a ((⟨⟨aw, nw, cw⟩, ⟨some ⟨b, off, none⟩, np, cp⟩, su, ⟨ac, nc, cc⟩⟩ : Hs).u 0).n ((⟨⟨aw, nw, cw⟩, ⟨some ⟨b, off, none⟩, np, cp⟩, su, ⟨ac, nc, cc⟩⟩ : Hs).u 0).c, .slice ((⟨⟨aw, nw, cw⟩, ⟨some ⟨b, off, none⟩, np, cp⟩, su, ⟨ac, nc, cc⟩⟩ : Hs).u 1).a ((⟨⟨aw, nw, cw⟩, ⟨some ⟨b, off, none⟩, np, cp⟩, su, ⟨ac, nc, cc⟩⟩ : Hs).u 1).n ((⟨⟨aw, nw, cw⟩, ⟨some ⟨b, off, none⟩, np, cp⟩, su, ⟨ac, nc, cc⟩⟩ : Hs).u 1).c, .slice ((⟨⟨aw, nw, cw⟩, ⟨some ⟨b, off, none⟩, np, cp⟩, su, ⟨ac, nc, cc⟩⟩ : Hs).u 2).a ((⟨⟨aw, nw, cw⟩, ⟨some ⟨b, off, none⟩, np, cp⟩, su, ⟨ac, nc, cc⟩⟩ : Hs).u 2).n ((⟨⟨aw, nw, cw⟩, ⟨some ⟨b, off, none⟩, np, cp⟩, su, ⟨ac, nc, cc⟩⟩ : Hs).u 2).c, .slice (⟨⟨aw, nw, cw⟩, ⟨some ⟨b, off, none⟩, np, cp⟩, su, ⟨ac, nc, cc⟩⟩ : Hs).c.a (⟨⟨aw, nw, cw⟩, ⟨some ⟨b, off, none⟩, np, cp⟩, su, ⟨ac, nc, cc⟩⟩ : Hs).c.n (⟨⟨aw, nw, cw⟩, ⟨some ⟨b, off, none⟩, np, cp⟩, su, ⟨ac, nc, cc⟩⟩ : Hs).c.c])) ?_ rfl ((congrArg (fun D => RoOut w _ D _ _) E.out).mpr (res_end (t := ⟨⟨aw, nw, cw⟩, ⟨some ⟨b, off, none⟩, np, cp⟩, su, ⟨ac, nc, cc⟩⟩) R7.out.bel R7.out.hp R8.out (by omega) ⟨rfl, rfl, rfl⟩))
    obtain ⟨k0, k1, k2, k3, k4, k5⟩ := put6_at R8.out.box (.slice aw nw cw) (.slice (some ⟨b, off, none⟩) np cp) (.slice (su 0).a (su 0).n (su 0).c) (.slice (su 1).a (su 1).n (su 1).c) (.slice (su 2).a (su 2).n (su 2).c) (.slice ac nc cc)
    exact res_back rfl k0 k1 k2 k3 k4 k5
  · have d1 : decide ((v.n : Int) < m) = false := by simpa using hlt
    have E := Lib.hid (HE2.out (Int.not_lt.1 hlt))
    clear hlt HE1 HE2 x0 x1 x2 x3 x4 x5 xl z0 z1 z2 z3 z4 z5 y0 y1 y2 y3 y4 y5 u0 u1 u2 ul
    go_wp2_with fail
    refine (HO.out W4 R7.out.bel).mono ?_
    rintro e9 w5 ⟨t5, rfl, _, hp5, hl5, _, _, hb5⟩
    have B5 := Lib.hid hb5
    obtain ⟨W5, hW5⟩ : ∃ W5, W5 = w5.alloc (.cells #[.slice t5.w.a t5.w.n t5.w.c, .slice t5.p.a t5.p.n t5.p.c, .slice (t5.u 0).a (t5.u 0).n (t5.u 0).c, .slice (t5.u 1).a (t5.u 1).n (t5.u 1).c, .slice (t5.u 2).a (t5.u 2).n (t5.u 2).c, .slice t5.c.a t5.c.n t5.c.c] 28) := ⟨_, rfl⟩
    have b5 : Below w5.heap.size w5 W5 := by rw [hW5]; exact (Below.refl _ _).alloc (Nat.le_refl _) _
    have r5 : Rm W5 w5.heap.size t5 := by rw [hW5]; exact Rm.new w5 t5 _
    have N5 := Lib.hid hl5
    have hs5 := R7.out.bel.size
    have hs6 := hb5.size
    have O5 : Hid (Ro w W5 w5.heap.size t5 d) := Lib.hid ⟨(R7.out.bel.trans (hb5.mono R7.out.bel.size)).trans (b5.mono (by omega)), by omega, r5, hp5.next b5⟩
    have U5 := Lib.hid ((U4.out.next hb5).next b5)
    have B6 : Hid (Ls.Box3 W5 w3.heap.size u) := Lib.hid ((BU.out.next hb5).next b5)
    have C5 : Hid (Below W4.heap.size W4 W5) := Lib.hid (hb5.trans (b5.mono hb5.size))
    obtain ⟨bo, hbo⟩ : ∃ b, b = w5.heap.size := ⟨_, rfl⟩
    rw [← hbo] at O5 hs6
    go_upto_region 8 with fail
    rw [← hW5, ← hbo]
    clear hW5 b5 r5 hp5 hl5 hb5 hbo
    clear q0 q1 q2 q3 q4 q5 ql
    have v0 := B6.out.cell 0 (by decide)
    have v1 := B6.out.cell 1 (by decide)
    have v2 := B6.out.cell 2 (by decide)
    have vl := B6.out.lt
    have x0 := (O5.out.rm.box.box).c0
    have x1 := (O5.out.rm.box.box).c1
    have x2 := (O5.out.rm.box.box).c2
    have x3 := (O5.out.rm.box.box).c3
    have x4 := (O5.out.rm.box.box).c4
    have x5 := (O5.out.rm.box.box).c5
    have xl := (O5.out.rm.box.box).lt
    have z0 := (O5.out.rm.box).free 0
    have z1 := (O5.out.rm.box).free 1
    have z2 := (O5.out.rm.box).free 2
    have z3 := (O5.out.rm.box).free 3
    have z4 := (O5.out.rm.box).free 4
    have z5 := (O5.out.rm.box).free 5
    go_upto_region 9 with fail
    have O6 := Lib.hid (O5.out.free3 u _ U5.out)
    obtain ⟨W6, hW6⟩ : ∃ W6, W6 = ((W5.setCell ⟨bo, 2, none⟩ (.slice (u 0).a (u 0).n (u 0).c)).setCell ⟨bo, 3, none⟩ (.slice (u 1).a (u 1).n (u 1).c)).setCell ⟨bo, 4, none⟩ (.slice (u 2).a (u 2).n (u 2).c) := ⟨_, rfl⟩
    rw [← hW6] at O6
    have C6 : Hid (Below W4.heap.size W4 W6) := Lib.hid (by rw [hW6]; exact ((C5.out.setCell (p := ⟨bo, 2, none⟩) hs6 _).setCell (p := ⟨bo, 3, none⟩) hs6 _).setCell (p := ⟨bo, 4, none⟩) hs6 _)
    rw [← hW6]
    clear hW6 v0 v1 v2 vl x0 x1 x2 x3 x4 x5 xl z0 z1 z2 z3 z4 z5 O5 C5
    have R9 := Lib.hid (R7.out.next C6.out)
    have q0 := (R9.out.rm.box.box).c0
    have q1 := (R9.out.rm.box.box).c1
    have q2 := (R9.out.rm.box.box).c2
    have q3 := (R9.out.rm.box.box).c3
    have q4 := (R9.out.rm.box.box).c4
    have q5 := (R9.out.rm.box.box).c5
    have ql := (R9.out.rm.box.box).lt
    dsimp only at q0 q1 q2 q3 q4 q5
    go_wp2_with fail
    refine (HDR.out W6 R9.out.bel).mono ?_
    rintro e9 w7 ⟨A, c, rfl, hr7, hc7, hb7⟩
    have O7 := Lib.hid (O6.out.next hb7)
    have O8 := Lib.hid (O7.out.pages ⟨A, np, c⟩ (Cl.drop d.f p) hr7)
    have C7 : Hid (Below W4.heap.size W4 (w7.setCell ⟨bo, 1, none⟩ (.slice A np c))) := Lib.hid ((C6.out.trans (hb7.mono C6.out.size)).setCell (p := ⟨bo, 1, none⟩) hs6 _)
    have RY := Lib.hid (R8.out.next C7.out)
    clear hr7 hc7 hb7 R9 O6 C6
    clear q0 q1 q2 q3 q4 q5 ql
    have x0 := (O7.out.rm.box.box).c0
    have x1 := (O7.out.rm.box.box).c1
    have x2 := (O7.out.rm.box.box).c2
    have x3 := (O7.out.rm.box.box).c3
    have x4 := (O7.out.rm.box.box).c4
    have x5 := (O7.out.rm.box.box).c5
    have xl := (O7.out.rm.box.box).lt
    have z0 := (O7.out.rm.box).free 0
    have z1 := (O7.out.rm.box).free 1
    have z2 := (O7.out.rm.box).free 2
    have z3 := (O7.out.rm.box).free 3
    have z4 := (O7.out.rm.box).free 4
    have z5 := (O7.out.rm.box).free 5
    go_upto_region 10 with fail
    obtain ⟨W8, hW8⟩ : ∃ W8, W8 = w7.setCell ⟨bo, 1, none⟩ (.slice A np c) := ⟨_, rfl⟩
    rw [← hW8] at O8 RY C7
    rw [← hW8]
    clear hW8 x0 x1 x2 x3 x4 x5 xl z0 z1 z2 z3 z4 z5 O7
    have q0 := (O8.out.rm.box.box).c0
    have q1 := (O8.out.rm.box.box).c1
    have q2 := (O8.out.rm.box.box).c2
    have q3 := (O8.out.rm.box.box).c3
    have q4 := (O8.out.rm.box.box).c4
    have q5 := (O8.out.rm.box.box).c5
    have ql := (O8.out.rm.box.box).lt
    have x0 := (RY.out.box.box).c0
    have x1 := (RY.out.box.box).c1
    have x2 := (RY.out.box.box).c2
    have x3 := (RY.out.box.box).c3
    have x4 := (RY.out.box.box).c4
    have x5 := (RY.out.box.box).c5
    have xl := (RY.out.box.box).lt
    have z0 := (RY.out.box).free 0
    have z1 := (RY.out.box).free 1
    have z2 := (RY.out.box).free 2
    have z3 := (RY.out.box).free 3
    have z4 := (RY.out.box).free 4
    have z5 := (RY.out.box).free 5
    dsimp only [noHs, Ls.noSl] at x0 x1 x2 x3 x4 x5 q0 q1 q2 q3 q4 q5
    go_wp2
    refine bodyPost_ret (v := (.agg #[.slice (⟨t5.w, ⟨A, np, c⟩, u, t5.c⟩ : Hs).w.a (⟨t5.w, ⟨A, np, c⟩, u, t5.c⟩ : Hs).w.n (⟨t5.w, ⟨A, np, c⟩, u, t5.c⟩ : Hs).w.c, .slice (⟨t5.w, ⟨A, np, c⟩, u, t5.c⟩ : Hs).p.a (⟨t5.w, ⟨A, np, c⟩, u, t5.c⟩ : Hs).p.n (⟨t5.w, ⟨A, np, c⟩, u, t5.c⟩ : Hs).p.c, .slice ((⟨t5.w, ⟨A, np, c⟩, u, t5.c⟩ : Hs).u 0).a ((⟨t5.w, ⟨A, np, c⟩, u, t5.c⟩ : Hs).u 0).n ((⟨t5.w, ⟨A, np, c⟩, u, t5.c⟩ : Hs).u 0).c, .slice ((⟨t5.w, ⟨A, np, c⟩, u, t5.c⟩ : Hs).u 1).a ((⟨t5.w, ⟨A, np, c⟩, u, t5.c⟩ : Hs).u 1).n ((⟨t5.w, ⟨A, np, c⟩, u, t5.c⟩ : Hs).u 1).c, .slice ((⟨t5.w, ⟨A, np, c⟩, u, t5.c⟩ : Hs).u 2).a ((⟨t5.w, ⟨A, np, c⟩, u, t5.c⟩ : Hs).u 2).n ((⟨t5.w, ⟨A, np, c⟩, u, t5.c⟩ : Hs).u 2).c, .slice (⟨t5.w, ⟨A, np, c⟩, u, t5.c⟩ : Hs).c.a (⟨t5.w, ⟨A, np, c⟩, u, t5.c⟩ : Hs).c.n (⟨t5.w, ⟨A, np, c⟩, u, t5.c⟩ : Hs).c.c])) ?_ rfl ((congrArg (fun D => RoOut w _ D _ _) E.out).mpr (res_end (t := ⟨t5.w, ⟨A, np, c⟩, u, t5.c⟩) O8.out.bel O8.out.hp RY.out (by omega) ⟨N5.out.1, rfl, N5.out.2.2.2⟩))
    obtain ⟨k0, k1, k2, k3, k4, k5⟩ := put6_at RY.out.box (.slice t5.w.a t5.w.n t5.w.c) (.slice A np c) (.slice (u 0).a (u 0).n (u 0).c) (.slice (u 1).a (u 1).n (u 1).c) (.slice (u 2).a (u 2).n (u 2).c) (.slice t5.c.a t5.c.n t5.c.c)
    exact res_back rfl k0 k1 k2 k3 k4 k5
theorem rback_any (hp : Hp w w.heap.size s d) (hpn : p < s.p.n) (hf : Fit s) (hm : Cl.mayB d.f s.p.n = true) (hcn : s.c.n ≤ 100000) (hu : ∀ j, j < 3 → (s.u j).n ≤ 2000000) : Calls Tryz.prog 68 #[(.agg #[.slice s.w.a s.w.n s.w.c, .slice s.p.a s.p.n s.p.c, .slice (s.u 0).a (s.u 0).n (s.u 0).c, .slice (s.u 1).a (s.u 1).n (s.u 1).c, .slice (s.u 2).a (s.u 2).n (s.u 2).c, .slice s.c.a s.c.n s.c.c]), .int .i64 (p : Int)] w (RoOut w s (backD d p)) := by
  by_cases h1 : (d.f p).1 = 1
  · obtain ⟨hk, e⟩ := small_kind hm hpn h1
    exact rback_small s d p w _ hk e hp hpn hf hm hcn hu
  · rw [back_no h1]
    exact rback_other s d p w hp hpn h1
end
end Go.Proofs.YtmalopciboikhaaGreatDoor
end
section
namespace Go.Proofs.YtmalopciboikhaaGreatDoor
open Go.RowKit
set_option maxRecDepth 100000

/-- What a walk through Set has in memory: the heap's box, the head's, the result's. -/
structure St (w W : World) (s : Hs) (d : Hd_) (u o e : Bool) (n b m : Int) : Prop where
  bel : Below w.heap.size w W
  hb : HBox W w.heap.size s
  xb : X6 W (w.heap.size + 1) u o e n b m
  rb : Box6 W (w.heap.size + 2) noHs
  hp : Hp W W.heap.size s d
theorem St.next {w W W' : World} {s : Hs} {d : Hd_} {u o e : Bool} {n b m : Int} (h : St w W s d u o e n b m) (hb : Below W.heap.size W W') : St w W' s d u o e n b m :=
  ⟨h.bel.trans (hb.mono h.bel.size), h.hb.next hb, h.xb.next hb, h.rb.next hb, h.hp.next hb⟩
section
variable (s : Hs) (d : Hd_) (a : Int) (u o e : Bool) (n b m : Int) (w : World)
end
end Go.Proofs.YtmalopciboikhaaGreatDoor
end
section
namespace Go.Proofs.YtmalopciboikhaaGreatDoor
open Go.RowKit
section
variable (s : Hs) (d : Hd_) (a : Int) (u o e : Bool) (n b m : Int) (w : World)
end
end Go.Proofs.YtmalopciboikhaaGreatDoor
end
section
namespace Go.Proofs.YtmalopciboikhaaGreatDoor
open Go.RowKit
set_option maxRecDepth 100000

theorem mine_next {w w' : World} {base e g n c : Nat} {xs : List Int} (h : Mine w base e g n c xs) (hb : Below w.heap.size w w') : Mine w' base e g n c xs :=
  ⟨Ls.World.ownsRow.same h.1 fun k _ hk => hb.block k hk, h.2.1, Nat.lt_of_lt_of_le h.2.2.1 hb.size, h.2.2.2⟩
section
variable (s : Hs) (d : Hd_) (a : Int) (u o e : Bool) (n b m : Int) (w : World)
end
end Go.Proofs.YtmalopciboikhaaGreatDoor
end
section
namespace Go.Proofs.YtmalopciboikhaaGreatDoor.Rp
open Go.Proofs.YtmalopciboikhaaGreatDoor
open Go.RowKit
set_option maxRecDepth 100000

structure Og (w W : World) (s : Hs) (d : Hd_) (rb bs bo : Nat) (t : Hs) (D : Hd_) : Prop where
  h0 : Hp w w.heap.size s d
  bel : Below w.heap.size w W
  hb : Rm W w.heap.size s
  r : Rm W rb noHs
  o : Rm W bo t
  hp : Hp W W.heap.size t D
  o3 : Ls.Own3 W bs t.u D.F
  lo : (w.heap.size < bs ∧ w.heap.size ≤ rb ∧ rb < bs) ∧ bs ≤ bo
  ul : ∀ j, j < 3 → ∀ x, (t.u j).a = some x → ¬ x.block = bo
  aq : ∀ j, j < 3 → ∀ x, (t.u j).a = some x → (0 < t.w.n → ∀ z, t.w.a = some z → ¬ z.block = x.block) ∧ (0 < t.p.n → ∀ z, t.p.a = some z → ¬ z.block = x.block) ∧ (0 < t.c.n → ∀ z, t.c.a = some z → ¬ z.block = x.block)
  ln : t.w.n = s.w.n ∧ t.p.n = s.p.n ∧ t.c.n = s.c.n
/-- Its words are the call's own. -/
structure Om (W : World) (bs g : Nat) (t : Hs) (D : Hd_) : Prop where
  m : Mine W bs 3 g t.w.n t.w.c D.ws
  e : t.w.a = some ⟨g, 0, none⟩
  ap : (0 < t.p.n → ∀ z, t.p.a = some z → ¬ z.block = g) ∧ (∀ j, j < 3 → ∀ z, (t.u j).a = some z → ¬ z.block = g) ∧ (0 < t.c.n → ∀ z, t.c.a = some z → ¬ z.block = g)
section
variable {w W W' : World} {s t : Hs} {d D : Hd_} {rb bs bo g k : Nat}
theorem Og.next (h : Og w W s d rb bs bo t D) (hb : Below W.heap.size W W') : Og w W' s d rb bs bo t D :=
  ⟨h.h0, h.bel.trans (hb.mono h.bel.size), h.hb.next hb, h.r.next hb, h.o.next hb, h.hp.next hb, h.o3.next hb, h.lo, h.ul, h.aq, h.ln⟩
theorem Om.next (h : Om W bs g t D) (hb : Below W.heap.size W W') : Om W' bs g t D := ⟨mine_next h.m hb, h.e, h.ap⟩
theorem Og.hs (h : Og w W s d rb bs bo t D) : Hp W W.heap.size s d := h.h0.next h.bel
/-- A word is noughts. -/
theorem Og.zero (h : Og w W s d rb bs bo t D) (m : Om W bs g t D) (hn : 0 < t.w.n) (i : Nat) : Og w (W.setCell ⟨g, i, none⟩ (.int .i64 0)) s d rb bs bo t ⟨D.ws.set i 0, D.f, D.F, D.cs⟩ ∧ Om (W.setCell ⟨g, i, none⟩ (.int .i64 0)) bs g t ⟨D.ws.set i 0, D.f, D.F, D.cs⟩ := by
  have hlo := h.lo
  have hg := m.m.2.1
  have hz : W.heap.size = (W.setCell ⟨g, i, none⟩ (.int .i64 0)).heap.size := set_size.symm
  have st : Stp g g W (W.setCell ⟨g, i, none⟩ (.int .i64 0)) := Stp.set i _
  have hM := m.m.stored i 0
  have hR : Row W W.heap.size (some ⟨g, 0, none⟩) t.w.n D.ws := m.m.row
  have hbo : ¬ g = bo := fun e => h.o.sl.row hR hn _ rfl e
  have hw : Row (W.setCell ⟨g, i, none⟩ (.int .i64 0)) (W.setCell ⟨g, i, none⟩ (.int .i64 0)).heap.size t.w.a t.w.n (D.ws.set i 0) := by rw [m.e]; exact hM.row
  have ho3 : Ls.Own3 (W.setCell ⟨g, i, none⟩ (.int .i64 0)) bs t.u D.F := h.o3.same fun j x hj hx => set_others _ (m.ap.2.1 j hj x hx)
  refine ⟨⟨h.h0, h.bel.setCell (p := ⟨g, i, none⟩) (by show w.heap.size ≤ g; omega) _, h.hb.same (set_others _ (by omega)) (Nat.le_of_eq hz), h.r.same (set_others _ (by omega)) (Nat.le_of_eq hz), h.o.same (set_others _ (fun e => hbo e.symm)) (Nat.le_of_eq hz), ⟨hw, prow_stp (v := t.p) h.hp.pages (fun h0 z hz => ⟨m.ap.1 h0 z hz, m.ap.1 h0 z hz⟩) st, ho3.l3, brow_stp (v := t.c) h.hp.cards (fun h0 z hz => ⟨m.ap.2.2 h0 z hz, m.ap.2.2 h0 z hz⟩) st⟩, ho3, h.lo, h.ul, h.aq, h.ln⟩, ⟨hM, m.e, m.ap⟩⟩
theorem list_box {b : Nat} (h : Rm W b t) (hk : k < 3) : W.cell? ⟨b, 2 + k, none⟩ = some (.slice (t.u k).a (t.u k).n (t.u k).c) := by
  rcases (show k = 0 ∨ k = 1 ∨ k = 2 by omega) with rfl | rfl | rfl
  · exact h.box.box.c2
  · exact h.box.box.c3
  · exact h.box.box.c4
theorem rm_list {b : Nat} (h : Rm W b t) (hk : k < 3) (v : Ls.Sl) : Rm (W.setCell ⟨b, 2 + k, none⟩ (.slice v.a v.n v.c)) b ⟨t.w, t.p, Ls.upd t.u k v, t.c⟩ := by
  rcases (show k = 0 ∨ k = 1 ∨ k = 2 by omega) with rfl | rfl | rfl
  · exact h.set 2 v.a v.n v.c rfl rfl rfl rfl rfl rfl
  · exact h.set 3 v.a v.n v.c rfl rfl rfl rfl rfl rfl
  · exact h.set 4 v.a v.n v.c rfl rfl rfl rfl rfl rfl
/-- A list is appended to, and stored. -/
theorem Og.cat (h : Og w W s d rb bs bo t D) (hk : k < 3) {sl : Ls.Sl} {xs : List Int} {w2 : World} (hc : Ls.Catted W bs (.slice (t.u k).a (t.u k).n (t.u k).c) sl xs w2) :
    Rm w2 bo t ∧ (∀ i, i < bs → (w2.setCell ⟨bo, 2 + k, none⟩ (.slice sl.a sl.n sl.c)).heap[i]? = W.heap[i]? ∧ w2.heap[i]? = W.heap[i]?) ∧ W.heap.size ≤ w2.heap.size ∧ Og w (w2.setCell ⟨bo, 2 + k, none⟩ (.slice sl.a sl.n sl.c)) s d rb bs bo ⟨t.w, t.p, Ls.upd t.u k sl, t.c⟩ ⟨D.ws, D.f, Ls.upd D.F k xs, D.cs⟩ := by
  have hlo := h.lo
  have hob := h.o.box.box.lt
  have a3 := h.o3.appended hk sl hc.own hc.grown hc.lies
  have hsz := hc.grown.size
  have other : ∀ b, b < W.heap.size → (∀ x, (t.u k).a = some x → ¬ b = x.block) → w2.heap[b]? = W.heap[b]? := fun b hb hne => hc.grown.block b hb (by
    rw [Ls.ownBlock_slice]
    cases hx : (t.u k).a with
    | none => simp
    | some x => simpa using hne x hx)
  have hblk : ∀ x, (t.u k).a = some x → bs ≤ x.block := fun x hx => (h.o3.block k hk hx).1
  have bel2 : Below w.heap.size w w2 := h.bel.grown hc.grown h.bel.size fun j hj => by
    rw [Ls.ownBlock_slice] at hj
    cases hx : (t.u k).a with
    | none => rw [hx] at hj; cases hj
    | some x =>
      rw [hx] at hj
      simp at hj
      have := hblk x hx
      omega
  have hb2 : Rm w2 w.heap.size s := h.hb.same (other _ h.hb.box.box.lt fun x hx => by have := hblk x hx; omega) hsz
  have r2 : Rm w2 rb noHs := h.r.same (other _ h.r.box.box.lt fun x hx => by have := hblk x hx; omega) hsz
  have o2 : Rm w2 bo t := h.o.same (other _ hob fun x hx e => h.ul k hk x hx e.symm) hsz
  have rw2 : Row w2 w2.heap.size t.w.a t.w.n D.ws := (row_same h.hp.words fun hn z hz => by
    obtain ⟨b, off, e, hlt, _⟩ := h.hp.words.2 hn
    rw [hz] at e
    cases e
    exact other _ hlt fun x hx => (h.aq k hk x hx).1 hn _ hz).more hsz
  have rp2 : Cl.PRow w2 w2.heap.size t.p.a t.p.n D.f := fun hn => by
    obtain ⟨b, off, e, hlt, hcc⟩ := h.hp.pages hn
    have hb := other b hlt fun x hx => (h.aq k hk x hx).2.1 hn _ e
    exact ⟨b, off, e, Nat.lt_of_lt_of_le hlt hsz, fun i hi => ⟨(World.cell?_of_block (a := ⟨b, off + i * 2, none⟩) hb).trans (hcc i hi).1, (World.cell?_of_block (a := ⟨b, off + i * 2 + 1, none⟩) hb).trans (hcc i hi).2⟩⟩
  have rc2 : BRow w2 w2.heap.size t.c.a t.c.n D.cs := fun hn => by
    obtain ⟨b, off, e, hlt, hcc⟩ := h.hp.cards hn
    have hb := other b hlt fun x hx => (h.aq k hk x hx).2.2 hn _ e
    exact ⟨b, off, e, Nat.lt_of_lt_of_le hlt hsz, fun i hi => (World.cell?_of_block (a := ⟨b, off + i, none⟩) hb).trans (hcc i hi)⟩
  have inold : ∀ j, j < 3 → ∀ x, (Ls.upd t.u k sl j).a = some x → (∃ i, i < 3 ∧ ∃ y, (t.u i).a = some y ∧ y.block = x.block) ∨ W.heap.size ≤ x.block := fun j hj x hx => by
    by_cases e : j = k
    · subst e
      rw [Ls.upd_same] at hx
      rcases hc.lies x hx with g | g
      · rw [Ls.ownBlock_slice] at g
        cases hy : (t.u j).a with
        | none => rw [hy] at g; cases g
        | some y =>
          rw [hy] at g
          simp at g
          exact .inl ⟨j, hj, y, hy, g⟩
      · exact .inr g
    · rw [Ls.upd_other _ _ e] at hx
      exact .inl ⟨j, hj, x, hx, rfl⟩
  have ul2 : ∀ j, j < 3 → ∀ x, (Ls.upd t.u k sl j).a = some x → ¬ x.block = bo := fun j hj x hx e => by
    rcases inold j hj x hx with ⟨i, hi, y, hy, e2⟩ | g
    · exact h.ul i hi y hy (e2.trans e)
    · omega
  have aq2 : ∀ j, j < 3 → ∀ x, (Ls.upd t.u k sl j).a = some x → (0 < t.w.n → ∀ z, t.w.a = some z → ¬ z.block = x.block) ∧ (0 < t.p.n → ∀ z, t.p.a = some z → ¬ z.block = x.block) ∧ (0 < t.c.n → ∀ z, t.c.a = some z → ¬ z.block = x.block) := fun j hj x hx => by
    rcases inold j hj x hx with ⟨i, hi, y, hy, e2⟩ | g
    · rw [← e2]
      exact h.aq i hi y hy
    · refine ⟨fun hn z hz e => ?_, fun hn z hz e => ?_, fun hn z hz e => ?_⟩
      · obtain ⟨b, off, e3, hlt, _⟩ := h.hp.words.2 hn
        rw [hz] at e3
        cases e3
        simp only at e
        omega
      · obtain ⟨b, off, e3, hlt, _⟩ := h.hp.pages hn
        rw [hz] at e3
        cases e3
        simp only at e
        omega
      · obtain ⟨b, off, e3, hlt, _⟩ := h.hp.cards hn
        rw [hz] at e3
        cases e3
        simp only at e
        omega
  have hz2 : w2.heap.size = (w2.setCell ⟨bo, 2 + k, none⟩ (.slice sl.a sl.n sl.c)).heap.size := set_size.symm
  have old : ∀ i, i < bs → (w2.setCell ⟨bo, 2 + k, none⟩ (.slice sl.a sl.n sl.c)).heap[i]? = W.heap[i]? ∧ w2.heap[i]? = W.heap[i]? := fun i hi => by
    have h1 := other i (by omega) fun x hx => by have := hblk x hx; omega
    exact ⟨(set_others i (by omega)).trans h1, h1⟩
  exact ⟨o2, old, hsz, ⟨h.h0, bel2.setCell (p := ⟨bo, 2 + k, none⟩) (by show w.heap.size ≤ bo; omega) _, hb2.same (set_others _ (by omega)) (Nat.le_of_eq hz2), r2.same (set_others _ (by omega)) (Nat.le_of_eq hz2), rm_list o2 hk sl, hp_turn o2.sl (t := ⟨t.w, t.p, Ls.upd t.u k sl, t.c⟩) (d := ⟨D.ws, D.f, Ls.upd D.F k xs, D.cs⟩) ⟨rw2, rp2, a3.l3, rc2⟩ set_others hz2, a3.same fun j x hj hx => set_others _ (ul2 j hj x hx), h.lo, ul2, aq2, h.ln⟩⟩
/-- Behind Own, its heap in a box. -/
theorem og_start {w1 w5 : World} {e : Ending} (R1 : Ro w w1 w.heap.size s d) (R2 : Rm w1 rb noHs) (h0 : Hp w w.heap.size s d) (hlo : w.heap.size ≤ rb) (hO : OwnOut9 w1 s d e w5) :
    ∃ t : Hs, e = .returned (.agg #[.slice t.w.a t.w.n t.w.c, .slice t.p.a t.p.n t.p.c, .slice (t.u 0).a (t.u 0).n (t.u 0).c, .slice (t.u 1).a (t.u 1).n (t.u 1).c, .slice (t.u 2).a (t.u 2).n (t.u 2).c, .slice t.c.a t.c.n t.c.c]) ∧ ∀ W5, W5 = w5.alloc (.cells #[.slice t.w.a t.w.n t.w.c, .slice t.p.a t.p.n t.p.c, .slice (t.u 0).a (t.u 0).n (t.u 0).c, .slice (t.u 1).a (t.u 1).n (t.u 1).c, .slice (t.u 2).a (t.u 2).n (t.u 2).c, .slice t.c.a t.c.n t.c.c] 28) → Og w W5 s d rb w1.heap.size w5.heap.size t d ∧ (0 < s.w.n → ∃ g, Om W5 w1.heap.size g t d) := by
  obtain ⟨t, he, hw, hp, hl, h3, ap, aq, hb⟩ := hO
  refine ⟨t, he, fun W5 hW => ?_⟩
  have b5 : Below w5.heap.size w5 W5 := by rw [hW]; exact (Below.refl _ _).alloc (Nat.le_refl _) _
  have hs := hb.size
  refine ⟨⟨h0, (R1.bel.trans (hb.mono R1.bel.size)).trans (b5.mono (by have := R1.bel.size; omega)), (R1.rm.next hb).next b5, (R2.next hb).next b5, by rw [hW]; exact Rm.new w5 t _, hp.next b5, h3.next b5, ⟨⟨R1.rm.box.box.lt, hlo, R2.box.box.lt⟩, hs⟩, fun j hj x hx e => by have := (h3.block j hj hx).2; omega, fun j hj x hx => ⟨fun _ z hz e => (ap z hz).2.1 j hj x hx e.symm, (aq j hj x hx).1, (aq j hj x hx).2⟩, ⟨hl.1, hl.2.1, hl.2.2.2⟩⟩, fun hn => ?_⟩
  obtain ⟨g, c, e, hm⟩ := mine_of hw (by rw [hl.1]; exact hn)
  simp only [Value.slice.injEq, true_and] at e
  obtain ⟨e1, e2⟩ := e
  rw [← e2] at hm
  exact ⟨g, mine_next hm b5, e1, ap _ e1⟩
end
end Go.Proofs.YtmalopciboikhaaGreatDoor.Rp
end
section
namespace Go.Proofs.YtmalopciboikhaaGreatDoor.Cl
open Go.Proofs.YtmalopciboikhaaGreatDoor
open Go.RowKit Go.Shelf
attribute [local go_sem] Oper.semAt_some

/-- These numbers were listed, in memory of the call's own. -/
def ListedO (w : World) (xs : List Int) (e : Ending) (w' : World) : Prop :=
  ∃ a c, e = .returned (.slice a xs.length c) ∧ w'.ownsRow w.heap.size 3 1 (.slice a xs.length c) xs.length (xs.map (Value.int .i64)) ∧ Below w.heap.size w w'
theorem ListedO.over {w0 w w' : World} {xs : List Int} {e : Ending} (h : ListedO w xs e w') (hb : Below w0.heap.size w0 w) : ListedO w0 xs e w' := by
  obtain ⟨a, c, h1, h2, h3⟩ := h
  have hs := hb.size
  exact ⟨a, c, h1, ⟨h2.1, h2.2.imp id fun ⟨g, cap, cur, e, hg, r⟩ => ⟨g, cap, cur, e, by omega, r⟩⟩, hb.trans (h3.mono hs)⟩
theorem ListedO.out {w w' : World} {xs : List Int} {e : Ending} (h : ListedO w xs e w') : ∃ a m c, e = .returned (.slice a m c) ∧ Hid (ListedO w xs (.returned (.slice a m c)) w') := by
  obtain ⟨a, c, rfl, r⟩ := h
  exact ⟨a, xs.length, c, rfl, Lib.hid ⟨a, c, rfl, r⟩⟩
theorem listedO_none {w w' : World} (hb : Below w.heap.size w w') : ListedO w [] (.returned (.slice none 0 0)) w' := ⟨none, 0, rfl, World.ownsRow_nil _ _ _ _, hb⟩
set_option maxRecDepth 100000 in
set_option maxHeartbeats 1000000 in
theorem starts_own (gf : Nat) (lb : Array Value) (C : Nat → Prop) (L : List (Int × Int)) (w : World) (hL : L.length ≤ 1000) (hC : ∀ k, C k → k < w.heap.size) (eg : ∀ args w, (callFunc gf args).run Tryz.prog w = .ok (.enter gf args) w)
    (hs : Gives Tryz.prog gf lb encC w.heap.size C L w) :
    Calls Tryz.prog 154 #[.func (.func gf) #[] lb] w (ListedO w (L.map (·.1))) := by
  obtain ⟨i0, hi, hz0, hz1, hz2⟩ := info_parts info_int1
  have HS : Hid (Gives Tryz.prog gf lb encC w.heap.size C L (w.alloc (.cells #[.slice none 0 0] 22))) := Lib.hid (hs.later ((Below.refl _ _).alloc (Nat.le_refl _) _))
  have HC := Lib.hid hC
  have HE := Lib.hid eg
  clear hs hC eg
  refine (callsIn_wide (n := 1)).1 ?_
  refine callsIn_of_wp_marks Tryz.func154 rfl trivial ?_ rfl
  simp only [Tryz.ntmps154, List.size_toArray, List.length_cons, List.length_nil, Nat.reduceAdd, Nat.reduceSub, Array.replicate_succ, Array.replicate_zero, List.push_toArray, List.append_toArray, List.nil_append, List.cons_append]
  gi_wp2
  refine range_gives (gf := gf) rfl HE.out HS.out (fun _ => rfl) (by simp) (fun _ => False) (fun k h => .inr (HC.out k h)) (fun _ h => h.elim) (Fills w) (fun _ _ _ _ => False) (Fills.bides w) (fun _ _ _ _ _ _ h _ _ _ => h) ?start ?round ?done ?stop
  case start => exact ⟨.slice none 0 0, Boxed.new w _ _, fun h => h, World.ownsRow_nil _ _ _ _, by simp [Value.ownBlock], fun _ h => h.elim, (Below.refl _ _).alloc (Nat.le_refl _) _⟩
  case stop =>
    rintro D c M pre W _ _ _ h _
    exact h.elim
  case done =>
    rintro D M W hD hDW hM ⟨v, hv⟩ hdef
    have hc := hv.box.cell
    have HV := Lib.hid hv
    clear hv
    dsimp only
    gi_wp2
    refine leave_marks [D] W (by simp) (by simpa using hdef) (fun W' h1 h2 h3 h4 h5 => ⟨_, results_tmp rfl _ _ _, ?_⟩)
    have hv := HV.out
    have hrow : W'.ownsRow w.heap.size 3 1 v (L.map (·.1)).length ((L.map (·.1)).map (Value.int .i64)) := by
      have := World.ownsRow.same hv.row (w' := W') (fun g hg _ => h5 g (by simp; rintro rfl; exact hv.off _ hg hM))
      simpa [Function.comp_def] using this
    obtain ⟨a, c, rfl, hr, hc1, hc2⟩ := owns_row hrow
    refine ⟨a, c, rfl, hrow, hv.bel.trans ⟨h1, h2, h3, by omega, fun k hk => h5 k ?_⟩⟩
    simp at hD ⊢
    omega
  case round =>
    intro l M pre x W hl hM hlt hpre hf
    obtain ⟨q, r⟩ := x
    have hlen : pre.length + 1 ≤ 1000 := by have := hpre.length_le; simp at this; omega
    have HF := Lib.hid hf
    have hz := HF.out.elim fun _ h => h.bel.size
    clear hf hpre
    dsimp only [encC]
    gi_wp2
    refine ⟨⟨(Below.refl _ _).alloc hz _, fun i _ hi => Below.heap_alloc _ _ _ hi⟩, fun o => ?_⟩
    obtain ⟨V, hV⟩ : ∃ V, V = (W.alloc (.cells #[.int .i64 q, .int .i64 r] 122)).putObj l o := ⟨_, rfl⟩
    rw [← hV]
    have hb2 : Below w.heap.size W V := by rw [hV]; exact ((Below.refl _ _).alloc hz _).trans (below_turned _ (by simp at hl; omega))
    have hs2 : ∀ i, i < W.heap.size → i ≠ l → V.heap[i]? = W.heap[i]? := fun i hi hn => by rw [hV]; exact (World.putObj_heap_other hn).trans (Below.heap_alloc _ _ _ hi)
    obtain ⟨v, hv⟩ := Fills.bides w M M pre W V HF.out hb2 (fun i hi hn => hs2 i hi (fun e => hn (e ▸ hM))) (fun i hi => .inl hi)
    have e0 : V.cell? ⟨W.heap.size, 0, none⟩ = some (.int .i64 q) := by
      rw [hV, World.cell?_of_block (a := ⟨W.heap.size, 0, none⟩) (World.putObj_heap_other (w := W.alloc _) (k := W.heap.size) (by omega))]
      simp [go_sem]
    have hc := hv.box.cell
    have hzV := hv.bel.size
    have hrow := hv.row
    have HV := Lib.hid hv
    clear hV hb2 hs2 hv
    gi_wp2_with (gi_at_builtin; refine listIn_append_lies _ rfl _ _ 22 rfl w.heap.size 3 i0 (.int .i64 0) 1 8 Tryz.underlying22 hi hz0 hz1 hz2 rfl (by decide) _ _ _ rfl (hrow.alloc _) ⟨V.heap.size, 0, none⟩ 1 1 [.int .i64 q] rfl rfl (cell_one_new _ _ _) (by simp [Value.oneCell']) (by decide) (by unfold maxLen; omega) (by omega) (by simp; omega) (V.heap.size + 1) (by simp) ?_; intro g cap w1 hown hgrow hat _; have hbx := (HV.out.box.alloc _).kept hgrow (HV.out.box.not_row (by decide) HV.out.row); have hc1 := hbx.cell; have hf1 := hbx.frozen)
    exact filled HV.out hown hgrow hat hbx
section
variable (B : Nat) (A : Option Addr) (n c : Nat) (f : Nat → Int × Int) (a : Int) (w : World)
theorem on_own (hn : n ≤ 1000) (hz : Sz w) (hr : PRow w B A n f) (hB : B ≤ w.heap.size) :
    Calls Tryz.prog 171 #[.slice A n c, .int .i64 a] w (ListedO w (onS f n a)) := by
  have HZ := Lib.hid hz
  have HR := Lib.hid hr
  clear hz hr
  cases hM : mayB f n
  · have HM := Lib.hid hM
    have HL := Lib.hid (show onS f n a = [] from if_neg (by rw [hM]; simp))
    clear hM
    go_enter Tryz.func171, Tryz.ntmps171
    go_wp2_with fail
    refine (may_no B _ _ _ _ _ HM.out hn HR.out hB).mono ?_
    rintro e w1 ⟨rfl, hb1⟩
    have HB := Lib.hid hb1
    clear hb1
    go_wp2
    go_ret
    rw [HL.out]
    exact listedO_none HB.out
  have HM := Lib.hid hM
  by_cases h0 : a < 0
  · have HL := Lib.hid (show onS f n a = [] from if_neg (by omega))
    have d0 : decide (a < 0) = true := by simpa using h0
    clear hM h0
    go_enter Tryz.func171, Tryz.ntmps171
    go_wp2_with fail
    refine (may_yes B _ _ _ _ _ HM.out HR.out hB).mono ?_
    rintro e w1 ⟨rfl, hb1⟩
    have HB := Lib.hid hb1
    clear hb1
    go_wp2
    go_ret
    rw [HL.out]
    exact listedO_none HB.out
  by_cases h1 : (n : Int) ≤ a
  · have HL := Lib.hid (show onS f n a = [] from if_neg (by omega))
    have d0 : decide (a < 0) = false := by simpa using h0
    have d1 : decide ((n : Int) ≤ a) = true := by simpa using h1
    clear hM h0 h1
    go_enter Tryz.func171, Tryz.ntmps171
    go_wp2_with fail
    refine (may_yes B _ _ _ _ _ HM.out HR.out hB).mono ?_
    rintro e w1 ⟨rfl, hb1⟩
    have HB := Lib.hid hb1
    clear hb1
    go_wp2
    go_ret
    rw [HL.out]
    exact listedO_none HB.out
  obtain ⟨k, rfl⟩ : ∃ k : Nat, a = k := ⟨a.toNat, by omega⟩
  have hk : k < n := by omega
  have HL := Lib.hid (show onS f n k = (pageL k (numOf (f k)) (roomOf (f k))).map (·.1) by unfold onS; rw [if_pos ⟨hM, by omega, by omega⟩, Int.toNat_natCast])
  have HP := Lib.hid (may_pm hM hk)
  have d0 : decide ((k : Int) < 0) = false := by simp
  have d1 : decide (n ≤ k) = false := by simp; omega
  clear hM h0 h1
  go_enter Tryz.func171, Tryz.ntmps171
  go_wp2_with fail
  refine (may_yes B _ _ _ _ _ HM.out HR.out hB).mono ?_
  rintro e w1 ⟨rfl, hb1⟩
  have HB := Lib.hid hb1
  have HZ1 := Lib.hid (HZ.out.over hb1 HZ.out.pos)
  have HR1 := Lib.hid (HR.out.over hb1 hB)
  have hz1 := hb1.size
  clear hb1
  go_wp2_with fail
  refine (on_any B A n c f k w1 HZ1.out hn hk HP.out HR1.out (by omega)).mono ?_
  rintro e w2 ⟨b0, b1, b2, rfl, ⟨g0, g1, g2⟩, c0, c1, c2, hb2⟩
  have HB2 := Lib.hid (HB.out.trans (hb2.mono hz1))
  have l0 : b0 < w2.heap.size := World.block_lt_of_cell? w2 _ c0
  have l1 : b1 < w2.heap.size := World.block_lt_of_cell? w2 _ c1
  have l2 : b2 < w2.heap.size := World.block_lt_of_cell? w2 _ c2
  have hnr := num_room HP.out
  have HG := Lib.hid (on_gives w2.heap.size k (numOf (f k)) (roomOf (f k)) b0 b1 b2 w2 (by have := (mayB_iff f n).1 HM.out; omega) hnr.1 hnr.2.1 hnr.2.2 c0 c1 c2)
  clear c0 c1 c2 hb2 hnr
  go_wp2_with fail
  refine (starts_own _ _ (fun b => b = b0 ∨ b = b1 ∨ b = b2) _ _ (by rw [pageL_length]; have := (num_room HP.out).1; omega) (by rintro i (rfl | rfl | rfl) <;> assumption) (enters_of Tryz.func175 (by kernel_rfl) rfl) HG.out).mono ?_
  rintro e w3 hl
  obtain ⟨a, m, c, rfl, HL3⟩ := (hl.over HB2.out).out
  clear hl
  go_wp2
  go_ret
  rw [HL.out]
  exact HL3.out
end
end Go.Proofs.YtmalopciboikhaaGreatDoor.Cl
end
section
namespace Go.Proofs.YtmalopciboikhaaGreatDoor
open Go.RowKit
set_option maxRecDepth 100000

/-- The box of what room is taken from. -/
structure Box9 (W : World) (b : Nat) (t : Hs) (u : Nat → Ls.Sl) : Prop where
  box : HBox W b t
  k6 : W.cell? ⟨b, 6, none⟩ = some (.slice (u 0).a (u 0).n (u 0).c)
  k7 : W.cell? ⟨b, 7, none⟩ = some (.slice (u 1).a (u 1).n (u 1).c)
  k8 : W.cell? ⟨b, 8, none⟩ = some (.slice (u 2).a (u 2).n (u 2).c)
  free : ∀ j, W.frozen? ⟨b, j, none⟩ = false
  sl : Slices W b
theorem Box9.same {W W' : World} {b : Nat} {t : Hs} {u : Nat → Ls.Sl} (h : Box9 W b t u) (hs : W'.heap[b]? = W.heap[b]?) (hl : W.heap.size ≤ W'.heap.size) : Box9 W' b t u :=
  ⟨hbox_same h.box hs hl, (World.cell?_of_block (a := ⟨b, 6, none⟩) hs).trans h.k6, (World.cell?_of_block (a := ⟨b, 7, none⟩) hs).trans h.k7, (World.cell?_of_block (a := ⟨b, 8, none⟩) hs).trans h.k8, fun j => (World.frozen?_of_block (a := ⟨b, j, none⟩) hs).trans (h.free j), h.sl.same hs⟩
theorem Box9.next {W W' : World} {b : Nat} {t : Hs} {u : Nat → Ls.Sl} (h : Box9 W b t u) (hb : Below W.heap.size W W') : Box9 W' b t u := h.same (hb.block b h.box.lt) hb.size
/-- One cell is turned. -/
theorem Box9.set {W : World} {b : Nat} {t t' : Hs} {u u' : Nat → Ls.Sl} (h : Box9 W b t u) (k : Nat) (a : Option Addr) (n c : Nat)
    (e0 : Value.slice t'.w.a t'.w.n t'.w.c = if 0 = k then .slice a n c else .slice t.w.a t.w.n t.w.c) (e1 : Value.slice t'.p.a t'.p.n t'.p.c = if 1 = k then .slice a n c else .slice t.p.a t.p.n t.p.c)
    (e2 : Value.slice (t'.u 0).a (t'.u 0).n (t'.u 0).c = if 2 = k then .slice a n c else .slice (t.u 0).a (t.u 0).n (t.u 0).c) (e3 : Value.slice (t'.u 1).a (t'.u 1).n (t'.u 1).c = if 3 = k then .slice a n c else .slice (t.u 1).a (t.u 1).n (t.u 1).c)
    (e4 : Value.slice (t'.u 2).a (t'.u 2).n (t'.u 2).c = if 4 = k then .slice a n c else .slice (t.u 2).a (t.u 2).n (t.u 2).c) (e5 : Value.slice t'.c.a t'.c.n t'.c.c = if 5 = k then .slice a n c else .slice t.c.a t.c.n t.c.c)
    (e6 : Value.slice (u' 0).a (u' 0).n (u' 0).c = if 6 = k then .slice a n c else .slice (u 0).a (u 0).n (u 0).c) (e7 : Value.slice (u' 1).a (u' 1).n (u' 1).c = if 7 = k then .slice a n c else .slice (u 1).a (u 1).n (u 1).c)
    (e8 : Value.slice (u' 2).a (u' 2).n (u' 2).c = if 8 = k then .slice a n c else .slice (u 2).a (u 2).n (u 2).c) : Box9 (W.setCell ⟨b, k, none⟩ (.slice a n c)) b t' u' :=
  ⟨⟨cell_set h.box.c0 e0, cell_set h.box.c1 e1, cell_set h.box.c2 e2, cell_set h.box.c3 e3, cell_set h.box.c4 e4, cell_set h.box.c5 e5, by simpa [World.setCell] using h.box.lt⟩, cell_set h.k6 e6, cell_set h.k7 e7, cell_set h.k8 e8, frozen_set h.free, h.sl.set⟩
def tri3 (a b c : Ls.Sl) : Nat → Ls.Sl := fun | 0 => a | 1 => b | _ => c
/-- Three slices are stored at once. -/
theorem Box9.free3 {W : World} {b : Nat} {t : Hs} {u : Nat → Ls.Sl} (h : Box9 W b t u) (v : Nat → Ls.Sl) : Box9 (((W.setCell ⟨b, 2, none⟩ (.slice (v 0).a (v 0).n (v 0).c)).setCell ⟨b, 3, none⟩ (.slice (v 1).a (v 1).n (v 1).c)).setCell ⟨b, 4, none⟩ (.slice (v 2).a (v 2).n (v 2).c)) b ⟨t.w, t.p, v, t.c⟩ u := by
  have h1 := h.set (t' := ⟨t.w, t.p, tri3 (v 0) (t.u 1) (t.u 2), t.c⟩) (u' := u) 2 (v 0).a (v 0).n (v 0).c rfl rfl rfl rfl rfl rfl rfl rfl rfl
  have h2 := h1.set (t' := ⟨t.w, t.p, tri3 (v 0) (v 1) (t.u 2), t.c⟩) (u' := u) 3 (v 1).a (v 1).n (v 1).c rfl rfl rfl rfl rfl rfl rfl rfl rfl
  exact h2.set (t' := ⟨t.w, t.p, v, t.c⟩) (u' := u) 4 (v 2).a (v 2).n (v 2).c rfl rfl rfl rfl rfl rfl rfl rfl rfl
theorem Box9.cache3 {W : World} {b : Nat} {t : Hs} {u : Nat → Ls.Sl} (h : Box9 W b t u) (v : Nat → Ls.Sl) : Box9 (((W.setCell ⟨b, 6, none⟩ (.slice (v 0).a (v 0).n (v 0).c)).setCell ⟨b, 7, none⟩ (.slice (v 1).a (v 1).n (v 1).c)).setCell ⟨b, 8, none⟩ (.slice (v 2).a (v 2).n (v 2).c)) b t v := by
  have h1 := h.set (t' := t) (u' := tri3 (v 0) (u 1) (u 2)) 6 (v 0).a (v 0).n (v 0).c rfl rfl rfl rfl rfl rfl rfl rfl rfl
  have h2 := h1.set (t' := t) (u' := tri3 (v 0) (v 1) (u 2)) 7 (v 1).a (v 1).n (v 1).c rfl rfl rfl rfl rfl rfl rfl rfl rfl
  exact h2.set (t' := t) (u' := v) 8 (v 2).a (v 2).n (v 2).c rfl rfl rfl rfl rfl rfl rfl rfl rfl
/-- What room is taken from. -/
structure Sto (W : World) (b : Nat) (t : Hs) (u : Nat → Ls.Sl) (d : Hd_) (G : Nat → List Int) : Prop where
  b9 : Box9 W b t u
  hp : Hp W W.heap.size t d
  l3 : Ls.L3 W W.heap.size u G
  pc : t.p.n ≤ t.p.c
theorem Sto.next {W W' : World} {b : Nat} {t : Hs} {u : Nat → Ls.Sl} {d : Hd_} {G : Nat → List Int} (h : Sto W b t u d G) (hb : Below W.heap.size W W') : Sto W' b t u d G := ⟨h.b9.next hb, h.hp.next hb, h.l3.next hb, h.pc⟩
/-- The box is turned, to what lies there already. -/
theorem Sto.turn {W W' : World} {b : Nat} {t t' : Hs} {u u' : Nat → Ls.Sl} {d d' : Hd_} {G G' : Nat → List Int} (h : Sto W b t u d G) (hb : Box9 W' b t' u') (hs : ∀ i, ¬ i = b → W'.heap[i]? = W.heap[i]?) (hl : W.heap.size = W'.heap.size)
    (hp : Hp W W.heap.size t' d') (l3 : Ls.L3 W W.heap.size u' G') (pc : t'.p.n ≤ t'.p.c) : Sto W' b t' u' d' G' :=
  ⟨hb, hp_turn h.b9.sl hp hs hl, l3_turn h.b9.sl l3 hs hl, pc⟩
end Go.Proofs.YtmalopciboikhaaGreatDoor
end
section
namespace Go.Proofs.YtmalopciboikhaaGreatDoor
open Go.RowKit
set_option maxRecDepth 100000

/-- The library's Reverse of a list of the walk's own. -/
theorem reverse_own (w : World) (base : Nat) (a : Option Addr) (c : Nat) (xs : List Int) (own : w.ownsRow base 3 1 (.slice a xs.length c) xs.length (xs.map (Value.int .i64))) (hlen : xs.length ≤ 4000000) :
    Calls Tryz.prog 172 #[.slice a xs.length c] w fun e w' => e = .returned (.tuple #[]) ∧ w'.ownsRow base 3 1 (.slice a xs.length c) xs.length (xs.reverse.map (Value.int .i64)) ∧ w.grownBy w' (Value.slice a xs.length c).ownBlock := by
  by_cases h0 : xs.length = 0
  · obtain rfl := List.eq_nil_of_length_eq_zero h0
    refine (Tryz.slices_Reverse_int_empty a c w).mono ?_
    rintro e w' ⟨rfl, rfl⟩
    exact ⟨rfl, by simpa using own, ⟨rfl, rfl, rfl, Nat.le_refl _, fun _ _ _ => rfl⟩⟩
  · obtain ⟨_, h1⟩ := own
    rcases h1 with ⟨_, h2⟩ | ⟨g, cap, cur, h2, hbase, hh, hc1, hc2, hsz, htk⟩
    · exact absurd h2 h0
    · simp only [Value.slice.injEq, true_and] at h2
      obtain ⟨rfl, rfl⟩ := h2
      rw [Nat.mul_one] at htk
      have hH := holds_of_blockI (ss := xs) hh htk
      refine (Tryz.slices_Reverse_int g 0 c xs w hH (by omega)).mono ?_
      rintro e w' ⟨rfl, q, rfl⟩
      have eg : ∀ W : World, Sort.grow W #[] = W := fun W => by simp [Sort.grow]
      have h3 := ownsRow_sortedI (w := w) (base := base) (n := q) (os := #[]) (ss := xs) (ts := xs.reverse) (by simp) hbase hh hc1 hc2 hsz
      have h4 := grownBy_sortedI (w := w) (n := q) (os := #[]) (g := g) xs.reverse.toArray
      rw [eg] at h3 h4
      exact ⟨rfl, h3, h4⟩
theorem reverse_own' (w : World) (base : Nat) (a : Option Addr) (c n : Nat) (xs : List Int) (hn : n = xs.length) (own : w.ownsRow base 3 1 (.slice a xs.length c) xs.length (xs.map (Value.int .i64))) (hlen : xs.length ≤ 4000000) :
    Calls Tryz.prog 172 #[.slice a n c] w fun e w' => e = .returned (.tuple #[]) ∧ w'.ownsRow base 3 1 (.slice a n c) n (xs.reverse.map (Value.int .i64)) ∧ w.grownBy w' (Value.slice a xs.length c).ownBlock := by
  subst hn
  exact reverse_own w base a c xs own hlen
theorem small_done {w w' : World} {f : Nat → Int × Int} {n p k : Nat} {e : Ending} (hm : Cl.mayB f n = true) (hp : p < n) (h0 : (f p).1 = 0) (hk : k < 3) (h : Cl.TOut w (Cl.smallE f n (p : Int) (k : Int)) n (Cl.smallF f (p : Int) (k : Int)) e w') :
    ∃ A c, e = .returned (.tuple #[.slice A n c, .int .i64 0]) ∧ Cl.PRow w' w'.heap.size A n (Cl.put f p (1, (k : Int))) ∧ n ≤ c ∧ Below w.heap.size w w' := by
  have hE : Cl.smallE f n (p : Int) (k : Int) = 0 := by
    unfold Cl.smallE
    rw [if_pos ((Cl.clB_iff _).2 ⟨by omega, by omega⟩)]
    refine Cl.takeE_ok hm (by omega) ((Cl.freeB_iff _ _ _).2 fun j hj => ?_)
    have : j = 0 := by have : (1 : Int).toNat = 1 := rfl; omega
    subst this
    simpa using h0
  rw [hE] at h
  obtain ⟨A, c, h1, h2, h3, h4⟩ := h
  have e0 : Cl.outN 0 n = n := if_pos rfl
  rw [e0] at h1 h2 h3
  exact ⟨A, c, h1, h2, h3, h4⟩
/-- None of the slices lies in a block. -/
structure Offs (g : Nat) (t : Hs) (v : Nat → Ls.Sl) : Prop where
  w : 0 < t.w.n → ∀ x, t.w.a = some x → ¬ x.block = g
  p : 0 < t.p.n → ∀ x, t.p.a = some x → ¬ x.block = g
  u : ∀ j, j < 3 → 0 < (t.u j).n → ∀ x, (t.u j).a = some x → ¬ x.block = g
  c : 0 < t.c.n → ∀ x, t.c.a = some x → ¬ x.block = g
  k : ∀ j, j < 3 → 0 < (v j).n → ∀ x, (v j).a = some x → ¬ x.block = g
theorem row_lt {w : World} {B n : Nat} {a : Option Addr} {xs : List Int} (h : Row w B a n xs) (hn : 0 < n) {x : Addr} (hx : a = some x) : x.block < B := by
  obtain ⟨b, off, e, hlt, _⟩ := h.2 hn
  rw [hx] at e
  cases e
  exact hlt
theorem Sto.offs {w : World} {b g : Nat} {t : Hs} {u : Nat → Ls.Sl} {d : Hd_} {G : Nat → List Int} (h : Sto w b t u d G) (hg : w.heap.size ≤ g) : Offs g t u := by
  refine ⟨fun hn x hx => by have := row_lt h.hp.words hn hx; omega, fun hn x hx => ?_, fun j hj hn x hx => by have := row_lt (h.hp.free j hj).1 hn hx; omega, fun hn x hx => ?_, fun j hj hn x hx => by have := row_lt (h.l3 j hj).1 hn hx; omega⟩
  · obtain ⟨b', off, e, hlt, _⟩ := h.hp.pages hn
    rw [hx] at e
    cases e
    show ¬ b' = g
    omega
  · obtain ⟨b', off, e, hlt, _⟩ := h.hp.cards hn
    rw [hx] at e
    cases e
    show ¬ b' = g
    omega
theorem Sto.other {w w' : World} {b g : Nat} {t : Hs} {u : Nat → Ls.Sl} {d : Hd_} {G : Nat → List Int} (h : Sto w b t u d G) (ho : Offs g t u) (hb : ¬ b = g) (hs : ∀ i, i < w.heap.size → ¬ i = g → w'.heap[i]? = w.heap[i]?) (hl : w.heap.size ≤ w'.heap.size) : Sto w' b t u d G := by
  have hr : ∀ {a : Option Addr} {n : Nat} {xs : List Int}, Row w w.heap.size a n xs → (0 < n → ∀ x, a = some x → ¬ x.block = g) → Row w' w'.heap.size a n xs := fun h0 h1 => (row_same h0 fun hn x hx => hs _ (row_lt h0 hn hx) (h1 hn x hx)).more hl
  refine ⟨h.b9.same (hs b h.b9.box.lt hb) hl, ⟨hr h.hp.words ho.w, fun hn => ?_, fun j hj => ⟨hr (h.hp.free j hj).1 (ho.u j hj), (h.hp.free j hj).2⟩, fun hn => ?_⟩, fun j hj => ⟨hr (h.l3 j hj).1 (ho.k j hj), (h.l3 j hj).2⟩, h.pc⟩
  · obtain ⟨b', off, e, hlt, hc⟩ := h.hp.pages hn
    have hb' := hs b' hlt (ho.p hn _ e)
    exact ⟨b', off, e, by omega, fun i hi => ⟨(World.cell?_of_block (a := ⟨b', off + i * 2, none⟩) hb').trans (hc i hi).1, (World.cell?_of_block (a := ⟨b', off + i * 2 + 1, none⟩) hb').trans (hc i hi).2⟩⟩
  · obtain ⟨b', off, e, hlt, hc⟩ := h.hp.cards hn
    exact ⟨b', off, e, by omega, fun i hi => (World.cell?_of_block (a := ⟨b', off + i, none⟩) (hs b' hlt (ho.c hn _ e))).trans (hc i hi)⟩
/-- While the first words of a page's cells are put. -/
structure SpAt (b : Nat) (w wr : World) (t : Hs) (u : Nat → Ls.Sl) (d : Hd_) (G : Nat → List Int) (on : List Int) (base : Nat) (a : Option Addr) (c j : Nat) : Prop where
  sto : ∃ t', Sto wr b t' u ⟨zeroAt d.ws (on.take j), d.f, d.F, d.cs⟩ G ∧ Same3 t t' ∧ t'.u = t.u ∧ ∀ q, (Value.slice a on.length c).ownBlock = some q → Offs q t' u
  own : wr.ownsRow base 3 1 (.slice a on.length c) on.length (on.map (Value.int .i64))
  bel : Below b w wr
theorem SpAt.step {b : Nat} {w wr w1 : World} {t t' : Hs} {u : Nat → Ls.Sl} {d : Hd_} {G : Nat → List Int} {on : List Int} {base : Nat} {a : Option Addr} {c j : Nat} {y : Int} {g cw : Nat} (h : SpAt b w wr t u d G on base a c j) (hs : Sto wr b t' u ⟨zeroAt d.ws (on.take j), d.f, d.F, d.cs⟩ G) (h3 : Same3 t t') (hu : t'.u = t.u) (hoff : ∀ q, (Value.slice a on.length c).ownBlock = some q → Offs q t' u) (hj : j < on.length) (hy : on.getD j 0 = y) (hbase : b < base)
    (hm : Mine w1 wr.heap.size 3 g t'.w.n cw ((zeroAt d.ws (on.take j)).set (y - 16).toNat 0)) (hb : Below wr.heap.size wr w1) : SpAt b w (w1.setCell ⟨b, 0, none⟩ (.slice (some ⟨g, 0, none⟩) t'.w.n cw)) t u d G on base a c (j + 1) := by
  have e : on.take (j + 1) = on.take j ++ [y] := by rw [Ls.take_next rfl hj, hy]
  have S1 := hs.next hb
  refine ⟨⟨⟨⟨some ⟨g, 0, none⟩, t'.w.n, cw⟩, t'.p, t'.u, t'.c⟩, ?_, h3, hu, fun q hq => ⟨fun _ x hx => ?_, (hoff q hq).p, (hoff q hq).u, (hoff q hq).c, (hoff q hq).k⟩⟩, ?_, ?_⟩
  · rw [e, zeroAt_snoc]
    exact S1.turn (S1.b9.set 0 _ _ _ rfl rfl rfl rfl rfl rfl rfl rfl rfl) set_others set_size.symm ⟨hm.row, S1.hp.pages, S1.hp.free, S1.hp.cards⟩ S1.l3 S1.pc
  · have h1 := (h.own.lt q hq).2
    have h2 := hm.2.1
    cases hx
    show ¬ g = q
    omega
  · refine Ls.World.ownsRow.same h.own fun q hq hlt => (set_others q ?_).trans (hb.block q hlt)
    have := (h.own.lt q hq).1
    omega
  · have := hs.b9.box.lt
    exact (h.bel.trans (hb.mono (by omega))).setCell (p := ⟨b, 0, none⟩) (Nat.le_refl _) _
/-- Behind the reversal. -/
theorem SpAt.turned {b : Nat} {w wr w5 : World} {t t' : Hs} {u : Nat → Ls.Sl} {d : Hd_} {G : Nat → List Int} {on : List Int} {base : Nat} {a : Option Addr} {c j : Nat} (h : SpAt b w wr t u d G on base a c j) (hs : Sto wr b t' u ⟨zeroAt d.ws (on.take j), d.f, d.F, d.cs⟩ G) (hoff : ∀ q, (Value.slice a on.length c).ownBlock = some q → Offs q t' u) (hbase : b < base)
    (hg : wr.grownBy w5 (Value.slice a on.length c).ownBlock) : Sto w5 b t' u ⟨zeroAt d.ws (on.take j), d.f, d.F, d.cs⟩ G ∧ Below b w w5 := by
  have h1 : Below b wr w5 := (Below.refl _ _).grown hg (by have := hs.b9.box.lt; omega) (fun q hq => by have := (h.own.lt q hq).1; omega)
  refine ⟨?_, h.bel.trans h1⟩
  cases hq : (Value.slice a on.length c).ownBlock with
  | none => exact hs.next ((Below.refl _ _).grown hg (Nat.le_refl _) (fun q hq' => by rw [hq] at hq'; cases hq'))
  | some q =>
    have := (h.own.lt q hq).1
    exact hs.other (hoff q hq) (by omega) (fun i hi hne => hg.block i hi (by rw [hq]; simpa using hne)) hg.size
section
variable (b : Nat) (t : Hs) (u : Nat → Ls.Sl) (d : Hd_) (G : Nat → List Int) (k : Nat) (w : World)
theorem split_none (hs : Sto w b t u d G) (hf : Fit t) (h : Cl.findO d.f t.p.n 1 = none) : Calls Tryz.prog 159 #[.pointer (some ⟨b, 0, none⟩), .int .i64 k] w fun e w' => e = .returned (.bool false) ∧ Below w.heap.size w w' := by
  have HS := Lib.hid hs
  have hp := hf.p
  have hpc := hs.pc
  have q1 := hs.b9.box.c1
  have ql := hs.b9.box.lt
  have h1 : Cl.findV d.f t.p.n 1 = 0 := by unfold Cl.findV; rw [h]
  have h2 : Cl.findS d.f t.p.n 1 = false := by unfold Cl.findS; rw [h]; rfl
  clear hs h hf
  go_enter Tryz.func159, Tryz.ntmps159
  go_wp2_with fail
  refine (Cl.pfind_any w.heap.size _ _ _ d.f 1 w (by omega) hpc HS.out.hp.pages (Nat.le_refl _)).mono ?_
  rw [h1, h2]
  rintro e w1 ⟨rfl, hb1⟩
  go_wp2
  go_ret
  exact ⟨rfl, hb1⟩
set_option maxHeartbeats 2000000 in
theorem split_some (p : Nat) (hs : Sto w b t u d G) (hz : Cl.Sz w) (h0 : 0 < b) (hf : Fit t) (hk : k < 3) (hun : ∀ j, j < 3 → (t.u j).n ≤ 2000000) (h : Cl.findO d.f t.p.n 1 = some p) :
    Calls Tryz.prog 159 #[.pointer (some ⟨b, 0, none⟩), .int .i64 k] w fun e w' => e = .returned (.bool true) ∧ (∃ t', Sto w' b t' u (splitD d t.p.n k p) G ∧ Same3 t t') ∧ Below b w w' := by
  have HS := Lib.hid hs
  have HZ := Lib.hid hz
  have hp := hf.p
  have hpc := hs.pc
  have q1 := hs.b9.box.c1
  have ql := hs.b9.box.lt
  have h1 : Cl.findV d.f t.p.n 1 = p := by unfold Cl.findV; rw [h]
  have h2 : Cl.findS d.f t.p.n 1 = true := by unfold Cl.findS; rw [h]; rfl
  obtain ⟨hm, hpn, hp0⟩ := find_one h
  clear hs hz
  go_enter Tryz.func159, Tryz.ntmps159
  go_wp2_with fail
  refine (Cl.pfind_any w.heap.size _ _ _ d.f 1 w (by omega) hpc HS.out.hp.pages (Nat.le_refl _)).mono ?_
  rw [h1, h2]
  rintro e w1 ⟨rfl, hb1⟩
  have S1 := Lib.hid (HS.out.next hb1)
  have q1 := S1.out.b9.box.c1
  have ql := S1.out.b9.box.lt
  go_wp2_with fail
  refine (Cl.small_any w1.heap.size _ _ _ d.f p k w1 (by omega) hpc S1.out.hp.pages (Nat.le_refl _)).mono ?_
  rintro e w2 hout
  obtain ⟨A, c, rfl, hr2, hc2, hb2⟩ := small_done hm hpn hp0 hk hout
  have S2 := S1.out.next hb2
  obtain ⟨f, hf'⟩ : ∃ f, f = Cl.put d.f p (1, (k : Int)) := ⟨_, rfl⟩
  rw [← hf'] at hr2
  have S3 := Lib.hid (S2.turn (t' := ⟨t.w, ⟨A, t.p.n, c⟩, t.u, t.c⟩) (d' := ⟨d.ws, f, d.F, d.cs⟩) (S2.b9.set 1 A t.p.n c rfl rfl rfl rfl rfl rfl rfl rfl rfl) set_others set_size.symm ⟨S2.hp.words, hr2, S2.hp.free, S2.hp.cards⟩ S2.l3 hc2)
  have B2 := Lib.hid (((hb1.mono (show b ≤ w.heap.size by omega)).trans (hb2.mono (show b ≤ w1.heap.size by omega))).setCell (p := ⟨b, 1, none⟩) (Nat.le_refl _) (.slice A t.p.n c))
  have r1 := S2.b9.box.c1
  have rl := S2.b9.box.lt
  have f1 := S2.b9.free 1
  clear hout hr2 hb1 hb2 S2 S1 q1 ql
  go_wp2_with fail
  obtain ⟨w3, hw3⟩ : ∃ w3, w3 = w2.setCell ⟨b, 1, none⟩ (.slice A t.p.n c) := ⟨_, rfl⟩
  rw [← hw3] at S3 B2 ⊢
  clear hw3 r1 rl f1
  have Z3 := HZ.out.over B2.out h0
  have z3 := B2.out.size
  have e3 : b < w3.heap.size := S3.out.b9.box.lt
  refine (Cl.on_own w3.heap.size A t.p.n c f p w3 (by omega) Z3 S3.out.hp.pages (Nat.le_refl _)).mono ?_
  rintro e w4 ⟨a4, c4, rfl, ho4, hb4⟩
  obtain ⟨on, hon⟩ : ∃ on, on = Cl.onS f t.p.n p := ⟨_, rfl⟩
  rw [← hon] at ho4 ⊢
  have hlen : on.length ≤ 8 := by rw [hon]; exact on_short _ _ _
  have hw16 := hf.wp
  have HIN : Hid (∀ y ∈ on, 16 ≤ y ∧ y < 16 + (t.w.n : Int)) := Lib.hid fun y hy => by
    rw [hon] at hy
    have := bg_page (mem_on.1 hy).1
    omega
  have HMB := Lib.hid hf.w
  obtain ⟨m, hmm⟩ : ∃ m, m = on.length := ⟨_, rfl⟩
  have L0 : Hid (SpAt b w w4 t u ⟨d.ws, f, d.F, d.cs⟩ G on w3.heap.size a4 c4 0) := Lib.hid ⟨⟨_, S3.out.next hb4, ⟨rfl, rfl, rfl⟩, rfl, fun q hq => S3.out.offs (ho4.lt q hq).1⟩, ho4, B2.out.trans (hb4.mono (by omega))⟩
  have HON := Lib.hid hon
  have HM := Lib.hid hmm
  have HF' := Lib.hid hf'
  rw [← hmm] at hlen ⊢
  clear ho4 hb4 hon hf' hmm Z3 q1 ql S3 B2 HS hpc hc2 hm hpn hp0 h1 h2 hf hw16 z3
  go_wp2
  go_loopw [45] (fun i wr => ∃ j : Nat, j ≤ m ∧ i = .int .i64 j ∧ Hid (SpAt b w wr t u ⟨d.ws, f, d.F, d.cs⟩ G on w3.heap.size a4 c4 j)) (fun i _ => m - (intOf i).toNat)
  case atStart => exact ⟨0, Nat.zero_le _, rfl, L0⟩
  case round =>
    obtain ⟨j, hj, rfl, HJ⟩ := hrel
    clear L0
    by_cases hlt : j < m
    · have dq : decide ((j : Int) < m) = true := by simp; omega
      have ik0 : (0 : Int) ≤ j := by omega
      have ik1 : (j : Int) < m := by omega
      obtain ⟨t', hs, h3, hu, hoff⟩ := HJ.out.sto
      have HS := Lib.hid hs
      have H3 := Lib.hid h3
      have HU := Lib.hid hu
      have HO := Lib.hid hoff
      have hjl : j < on.length := by have := HM.out; omega
      obtain ⟨y, hy⟩ : ∃ y, on.getD j 0 = y := ⟨_, rfl⟩
      have hyin : y ∈ on := by rw [← hy]; exact getD_mem hjl
      have hyr := HIN.out y hyin
      have HY := Lib.hid hy
      obtain ⟨a9, c9, e9, hrow, _, _⟩ := Ls.owns_row HJ.out.own
      simp only [Value.slice.injEq, true_and] at e9
      obtain ⟨rfl, rfl⟩ := e9
      obtain ⟨bb, off, ea, hbl, hc⟩ := hrow.2 (by omega)
      have c1 := hc j hjl
      rw [hy] at c1
      have q0 := HS.out.b9.box.c0
      have ql := HS.out.b9.box.lt
      subst ea
      clear hs h3 hu hoff hrow hc hy hyin hjl
      go_wp2_with fail
      refine (Ar.put_ok wr.heap.size t'.w.a t'.w.n t'.w.c (zeroAt d.ws (on.take j)) y 0 wr (by rw [H3.out.1]; exact HMB.out) hyr.1 (by have := H3.out.1; omega) HS.out.hp.words).mono ?_
      rintro e w5 ⟨g, cw, rfl, hm5, hb5⟩
      have SB := HS.out.b9.next hb5
      have r0 := SB.box.c0
      have rl := SB.box.lt
      have f0 := SB.free 0
      have S5 := Lib.hid (HJ.out.step HS.out H3.out HU.out HO.out (by have := HM.out; omega) HY.out e3 hm5 hb5)
      clear hm5 hb5 SB c1 q0 ql
      go_wp2
      go_roundw
      case rel => exact ⟨j + 1, by omega, by go_num, S5⟩
      case measure => simp [intOf]; omega
    · have dq : decide ((j : Int) < m) = false := by simp; omega
      obtain rfl : j = m := by omega
      clear hj hlt
      obtain ⟨t', hs, h3, hu, hoff⟩ := HJ.out.sto
      have HS := Lib.hid hs
      have H3 := Lib.hid h3
      have HU := Lib.hid hu
      have HO := Lib.hid hoff
      clear hs h3 hu hoff
      go_wp2_with fail
      refine (reverse_own' wr w3.heap.size a4 c4 j on HM.out HJ.out.own (by have := HM.out; omega)).mono ?_
      rintro e w5 ⟨rfl, ho5, hg5⟩
      have T5 := HJ.out.turned HS.out HO.out e3 hg5
      have S5 := Lib.hid T5.1
      have B5 := Lib.hid T5.2
      have O5 := Lib.hid ho5
      have q2 := S5.out.b9.box.c2
      have q3 := S5.out.b9.box.c3
      have q4 := S5.out.b9.box.c4
      have ql := S5.out.b9.box.lt
      clear T5 ho5 hg5
      go_wp2_with fail
      obtain ⟨a9, c9, e9, hrow, _, _⟩ := Ls.owns_row O5.out
      simp only [Value.slice.injEq, true_and] at e9
      obtain ⟨rfl, rfl⟩ := e9
      refine (Ls.push_ok w5.heap.size t'.u d.F k hk a4 j c4 on.reverse w5 S5.out.hp.free (Nat.le_refl _) (fun j hj => by rw [HU.out]; exact hun j hj) hrow (by omega)).mono ?_
      rintro e w6 ⟨v6, rfl, hl6, hb6⟩
      have S6 := S5.out.next hb6
      have hsz5 := B5.out.size
      have r2 := S6.b9.box.c2
      have r3 := S6.b9.box.c3
      have r4 := S6.b9.box.c4
      have rl := S6.b9.box.lt
      have f2 := S6.b9.free 2
      have f3 := S6.b9.free 3
      have f4 := S6.b9.free 4
      have L6 := Lib.hid hl6
      have B6 := Lib.hid (B5.out.trans (hb6.mono (show b ≤ w5.heap.size by omega)))
      have S7 := Lib.hid S6
      clear hl6 hb6 S6 q2 q3 q4 ql hrow
      go_wp2
      go_ret
      refine ⟨rfl, ⟨⟨t'.w, t'.p, v6, t'.c⟩, ?_, H3.out⟩, ((B6.out.setCell (p := ⟨b, 2, none⟩) (Nat.le_refl _) _).setCell (p := ⟨b, 3, none⟩) (Nat.le_refl _) _).setCell (p := ⟨b, 4, none⟩) (Nat.le_refl _) _⟩
      have e9 : splitD d t.p.n k p = ⟨zeroAt d.ws (on.take j), f, Ls.upd d.F k (d.F k ++ on.reverse), d.cs⟩ := by
        unfold splitD
        rw [HM.out, List.take_length, HON.out, HF'.out]
      rw [e9]
      exact S7.out.turn (S7.out.b9.free3 v6) set3_others (by rw [set_size, set_size, set_size]) ⟨S7.out.hp.words, S7.out.hp.pages, L6.out, S7.out.hp.cards⟩ S7.out.l3 S7.out.pc
end
end Go.Proofs.YtmalopciboikhaaGreatDoor
end
section
namespace Go.Proofs.YtmalopciboikhaaGreatDoor
open Go.RowKit
set_option maxRecDepth 100000

/-- A cell was taken. -/
def PoppedL (b : Nat) (w : World) (t : Hs) (u : Nat → Ls.Sl) (d' : Hd_) (G' : Nat → List Int) (a : Int) (e : Ending) (w' : World) : Prop :=
  e = .returned (.tuple #[.int .i64 a, .int .i64 0]) ∧ (∃ t', Sto w' b t' u d' G' ∧ Same3 t t') ∧ Below b w w'
theorem large_done {w w' : World} {f : Nat → Int × Int} {n p : Nat} {m : Int} {e : Ending} (hm : Cl.mayB f n = true) (h1 : 1 ≤ m) (h4 : m ≤ 4) (hp : (p : Int) + m ≤ n) (hf : Cl.freeB f p m.toNat = true) (h : Cl.TOut w (Cl.largeE f n (p : Int) m) n (Cl.largeF f (p : Int) m) e w') :
    ∃ A c, e = .returned (.tuple #[.slice A n c, .int .i64 0]) ∧ Cl.PRow w' w'.heap.size A n (Cl.large f p m) ∧ n ≤ c ∧ Below w.heap.size w w' := by
  have hE : Cl.largeE f n (p : Int) m = 0 := by
    unfold Cl.largeE
    rw [if_pos ((Cl.runB_iff _).2 ⟨h1, h4⟩)]
    exact Cl.takeE_ok hm (by omega) (by rw [Int.toNat_natCast]; exact hf)
  rw [hE] at h
  obtain ⟨A, c, h1, h2, h3, h4⟩ := h
  have e0 : Cl.outN 0 n = n := if_pos rfl
  rw [e0] at h1 h2 h3
  exact ⟨A, c, h1, h2, h3, h4⟩
section
variable (b : Nat) (t : Hs) (u : Nat → Ls.Sl) (d : Hd_) (G : Nat → List Int) (w : World) (N m : Int)
theorem large_no (hs : Sto w b t u d G) (hz : Cl.Sz w) (hf : Fit t) (hN : Cl.runErr N = 0) (hm : Cl.runOf N = m) (h : Cl.findO d.f t.p.n m = none) : Calls Tryz.prog 93 #[.pointer (some ⟨b, 0, none⟩), .int .i64 N] w fun e w' => e = .returned (.tuple #[.int .i64 0, .int .i64 4]) ∧ Below w.heap.size w w' := by
  have HC := Cl.run_of N w hz
  rw [hN, hm] at HC
  have HR := Lib.hid HC
  have HS := Lib.hid hs
  have hp := hf.p
  have hpc := hs.pc
  have q1 := hs.b9.box.c1
  have ql := hs.b9.box.lt
  have h1 : Cl.findV d.f t.p.n m = 0 := by unfold Cl.findV; rw [h]
  have h2 : Cl.findS d.f t.p.n m = false := by unfold Cl.findS; rw [h]; rfl
  have HF := Lib.hid (Cl.pfind_any w.heap.size t.p.a t.p.n t.p.c d.f m w (by omega) hpc HS.out.hp.pages (Nat.le_refl _))
  rw [h1, h2] at HF
  clear hs h hf HC hz hm hN h1 h2
  go_enter Tryz.func93, Tryz.ntmps93
  go_wp2_with fail
  refine HR.out.mono ?_
  rintro e w0 ⟨rfl, rfl⟩
  go_wp2_with fail
  refine HF.out.mono ?_
  rintro e w1 ⟨rfl, hb1⟩
  go_wp2
  go_ret2
  exact ⟨rfl, hb1⟩
theorem large_yes (p : Nat) (hs : Sto w b t u d G) (hz : Cl.Sz w) (hf : Fit t) (hN : Cl.runErr N = 0) (hm : Cl.runOf N = m) (h : Cl.findO d.f t.p.n m = some p) : Calls Tryz.prog 93 #[.pointer (some ⟨b, 0, none⟩), .int .i64 N] w (PoppedL b w t u (largeD d p m) G (16 + 16 * (p : Int))) := by
  obtain ⟨g1, g2, g3, g4, g5⟩ := find_run h
  have HC := Cl.run_of N w hz
  rw [hN, hm] at HC
  have HR := Lib.hid HC
  have HS := Lib.hid hs
  have hp := hf.p
  have hpc := hs.pc
  have q1 := hs.b9.box.c1
  have ql := hs.b9.box.lt
  have h1 : Cl.findV d.f t.p.n m = p := by unfold Cl.findV; rw [h]
  have h2 : Cl.findS d.f t.p.n m = true := by unfold Cl.findS; rw [h]; rfl
  have HF := Lib.hid (Cl.pfind_any w.heap.size t.p.a t.p.n t.p.c d.f m w (by omega) hpc HS.out.hp.pages (Nat.le_refl _))
  rw [h1, h2] at HF
  have HD := Lib.hid (fun (w1 : World) (hS1 : Sto w1 b t u d G) => (Cl.large_any w1.heap.size t.p.a t.p.n t.p.c d.f p m w1 (by omega) hpc hS1.hp.pages (Nat.le_refl _)).mono fun _ _ ho => large_done g1 g2 g3 g4 g5 ho)
  have hwp := hf.wp
  have HA : Hid (∀ w1, Calls Tryz.prog 113 #[.slice t.w.a t.w.n t.w.c, .int .i64 (p : Int)] w1 fun e w' => e = .returned (.tuple #[.int .i64 (16 + 16 * (p : Int)), .int .i64 0]) ∧ w1 = w') := Lib.hid (fun w1 => by
    have := Ar.at_ok t.w.a t.w.n t.w.c (p : Int) w1 hf.w (by omega) (by omega)
    rwa [show 16 + (p : Int) * 16 = 16 + 16 * (p : Int) by omega] at this)
  clear hs h hf HC hz hm hN h1 h2 hwp g1 g2 g3 g4 g5
  go_enter Tryz.func93, Tryz.ntmps93
  go_wp2_with fail
  refine HR.out.mono ?_
  rintro e w0 ⟨rfl, rfl⟩
  go_wp2_with fail
  refine HF.out.mono ?_
  rintro e w1 ⟨rfl, hb1⟩
  have S1 := Lib.hid (HS.out.next hb1)
  have q1 := S1.out.b9.box.c1
  have ql := S1.out.b9.box.lt
  go_wp2_with fail
  refine (HD.out w1 S1.out).mono ?_
  rintro e w2 ⟨A, c, rfl, hr2, hc2, hb2⟩
  have S2 := S1.out.next hb2
  obtain ⟨f, hf'⟩ : ∃ f, f = Cl.large d.f p m := ⟨_, rfl⟩
  rw [← hf'] at hr2
  have S3 := Lib.hid (S2.turn (t' := ⟨t.w, ⟨A, t.p.n, c⟩, t.u, t.c⟩) (d' := ⟨d.ws, f, d.F, d.cs⟩) (S2.b9.set 1 A t.p.n c rfl rfl rfl rfl rfl rfl rfl rfl rfl) set_others set_size.symm ⟨S2.hp.words, hr2, S2.hp.free, S2.hp.cards⟩ S2.l3 hc2)
  have B2 := Lib.hid (((hb1.mono (show b ≤ w.heap.size from Nat.le_of_lt HS.out.b9.box.lt)).trans (hb2.mono (show b ≤ w1.heap.size from Nat.le_of_lt S1.out.b9.box.lt))).setCell (p := ⟨b, 1, none⟩) (Nat.le_refl _) (.slice A t.p.n c))
  have r0 := S2.b9.box.c0
  have r1 := S2.b9.box.c1
  have rl := S2.b9.box.lt
  have f1 := S2.b9.free 1
  have HF' := Lib.hid hf'
  clear hr2 hb1 hb2 S2 S1 q1 ql hf'
  go_wp2_with fail
  refine (HA.out _).mono ?_
  rintro e w3 ⟨rfl, rfl⟩
  go_wp2
  go_ret2
  refine ⟨rfl, ⟨⟨t.w, ⟨A, t.p.n, c⟩, t.u, t.c⟩, ?_, rfl, rfl, rfl⟩, B2.out⟩
  have := S3.out
  rw [HF'.out] at this
  exact this
end
end Go.Proofs.YtmalopciboikhaaGreatDoor
end
