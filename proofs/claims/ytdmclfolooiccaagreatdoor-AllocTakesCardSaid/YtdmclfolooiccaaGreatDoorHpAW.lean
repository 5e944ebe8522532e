/-
  Merged texts: AlRefT, HpSame.
-/
import Derived.Test.YtdmclfolooiccaaGreatDoorHpAV
import Derived.Test.YtdmclfolooiccaaGreatDoorAAlRefY
import Derived.Test.YtdmclfolooiccaaGreatDoorAAlRefS
import Derived.Test.YtdmclfolooiccaaGreatDoorAAlRefV
import Derived.Test.YtdmclfolooiccaaGreatDoorAAlRefQ
import Derived.Test.YtdmclfolooiccaaGreatDoorHpAH
import Derived.Test.YtdmclfolooiccaaGreatDoorHpAU
import Derived.Test.YtdmclfolooiccaaGreatDoorHpAR
section
namespace Go.Proofs.YtdmclfolooiccaaGreatDoor.Rp
open Go.Proofs.YtdmclfolooiccaaGreatDoor
open Go.RowKit
set_option maxRecDepth 100000

theorem begin_fin {D1 : Hd_} {n oo rm : Nat} {a x : Int} (ha : a = 16 + (oo : Int)) (hb : Cl.bg D1.f n a = (rm : Int)) : beginD D1 n a x = ⟨(Ar.wipe D1.ws oo rm).set oo x, D1.f, D1.F, D1.cs⟩ := by
  unfold beginD
  rw [hb, show (a - 16).toNat = oo by omega, Int.toNat_natCast]
theorem rtake_any (s : Hs) (u : Nat → Ls.Sl) (d : Hd_) (G : Nat → List Int) (us o e : Bool) (N b m : Int) (w : World) (hp : Hp w w.heap.size s d) (l3 : Ls.L3 w w.heap.size u G) (hf : FineT s d u G) :
    Calls Tryz.prog 8 #[(.agg #[.slice s.w.a s.w.n s.w.c, .slice s.p.a s.p.n s.p.c, .slice (s.u 0).a (s.u 0).n (s.u 0).c, .slice (s.u 1).a (s.u 1).n (s.u 1).c, .slice (s.u 2).a (s.u 2).n (s.u 2).c, .slice s.c.a s.c.n s.c.c]), (.agg #[.slice (u 0).a (u 0).n (u 0).c, .slice (u 1).a (u 1).n (u 1).c, .slice (u 2).a (u 2).n (u 2).c]), .agg #[.bool us, .bool o, .bool e, .int .i64 N, .int .i64 b, .int .i64 m]] w (TakeOut w (tkR s d G us o e N b m)) := by
  have hno : ∀ (_ : ¬ (mayH s d 1 (fun _ => G) = true ∧ Hd.mayB us o e N b m = true ∧ us = true)), tkR s d G us o e N b m = tkNo 1 := fun h => by
    have ha : argE s d G us o e N b m = 1 := if_neg h
    unfold tkR
    rw [ha, if_neg (by decide)]
  cases hm : mayH s d 1 (fun _ => G)
  · rw [hno (by rw [hm]; exact fun h => by cases h.1)]
    cases hh : Hd.mayB us o e N b m
    · exact rtake_may0 s u d G us o e N b m w hp l3 hf hm hh
    · exact rtake_may1 s u d G us o e N b m w hp l3 hf hm hh
  · cases hh : Hd.mayB us o e N b m
    · rw [hno (by rw [hh]; exact fun h => by cases h.2.1)]
      exact rtake_head s u d G us o e N b m w hp l3 hf hm hh
    · cases us
      · rw [hno (fun h => by cases h.2.2)]
        exact rtake_used s u d G o e N b m w hp l3 hf hm hh
      · have ha : argE s d G true o e N b m = Cl.classErr N := if_pos ⟨hm, hh, rfl⟩
        unfold tkR
        rw [ha]
        by_cases hc : Cl.classErr N = 0
        · rw [if_pos hc]
          have hfit := fit_first (mayH_all hm).1
          have hok : Okay s.p.n d G 0 (fun _ => G) := (okay_iff.1 (by rw [ahead_one]; exact hm)).2
          have hbgq : ∀ q, takeO d s.p.n G N = some q → ∃ oo rm : Nat, q.2.2 = 16 + (oo : Int) ∧ Cl.bg q.1.f s.p.n q.2.2 = rm ∧ oo + rm ≤ s.w.n ∧ s.w.n ≤ 1024 ∧ 2 ≤ rm := fun q hq => tail_num hfit ((takeO_some (r := 0) (R := fun _ => G) hq).cell hok)
          by_cases h3 : Cl.classOf N = 3
          · obtain ⟨hre, r1, r4⟩ := class_large hc h3
            obtain ⟨m1, hr⟩ : ∃ m1 : Nat, Cl.runOf N = m1 := ⟨(Cl.runOf N).toNat, by omega⟩
            cases hq : Cl.findO d.f s.p.n (m1 : Int) with
            | none =>
              have e0 : takeO d s.p.n G N = none := by unfold takeO; rw [if_pos h3, hr, hq]
              rw [e0]
              exact rtake_lno s u d G o e N b m w hp l3 hf hm hh hc h3 m1 hr hre hq
            | some p =>
              have e0 : takeO d s.p.n G N = some (largeD d p (m1 : Int), G, 16 + 16 * (p : Int)) := by unfold takeO; rw [if_pos h3, hr, hq]
              obtain ⟨oo, rm, h1, h2, h4, h5, h6⟩ := hbgq _ e0
              rw [e0]
              simp only
              rw [begin_fin h1 h2]
              exact rtake_lyes s u d G o e N b m w hp l3 hf hm hh hc h3 m1 hr hre p hq _ _ _ oo rm rfl rfl rfl h2 ⟨h1, h4, h5, h6⟩
          · have hcs := class_small h3
            obtain ⟨k, hk⟩ : ∃ k : Nat, Cl.classOf N = k := ⟨(Cl.classOf N).toNat, by omega⟩
            have hk3 : k < 3 := by omega
            have hkn : (Cl.classOf N).toNat = k := by omega
            have eT : takeO d s.p.n G N = (match smallO d s.p.n G k with | some q => some (q.1, popG q.2 k, popA q.2 k) | none => none) := by unfold takeO; rw [if_neg h3, hkn]; cases smallO d s.p.n G k <;> rfl
            by_cases hG0 : 0 < (G k).length
            · have e0 : takeO d s.p.n G N = some (d, popG G k, popA G k) := by rw [eT]; unfold smallO; rw [if_pos hG0]
              obtain ⟨oo, rm, h1, h2, h4, h5, h6⟩ := hbgq _ e0
              rw [e0]
              simp only
              rw [begin_fin h1 h2]
              exact rtake_pop s u d G o e N b m w hp l3 hf hm hh k hk3 hc hk hG0 _ _ _ oo rm h2 ⟨h1, h4, h5, h6⟩ rfl rfl rfl
            · by_cases hF0 : 0 < (d.F k).length
              · have e0 : takeO d s.p.n G N = some (fillD d k, popG (fillG d.F G k) k, popA (fillG d.F G k) k) := by rw [eT]; unfold smallO; rw [if_neg hG0, if_pos hF0]
                obtain ⟨oo, rm, h1, h2, h4, h5, h6⟩ := hbgq _ e0
                rw [e0]
                simp only
                rw [begin_fin h1 h2]
                exact rtake_move s u d G o e N b m w hp l3 hf hm hh k hk3 hc hk (by omega) hF0 _ _ _ oo rm h2 ⟨h1, h4, h5, h6⟩ rfl rfl rfl
              · cases hq : Cl.findO d.f s.p.n 1 with
                | none =>
                  have e0 : takeO d s.p.n G N = none := by rw [eT]; unfold smallO; rw [if_neg hG0, if_neg hF0, hq]
                  rw [e0]
                  exact rtake_sno s u d G o e N b m w hp l3 hf hm hh k hk3 hc hk (by omega) (by omega) hq
                | some p =>
                  have e0 : takeO d s.p.n G N = some (fillD (splitD d s.p.n k p) k, popG (fillG (splitD d s.p.n k p).F G k) k, popA (fillG (splitD d s.p.n k p).F G k) k) := by rw [eT]; unfold smallO; rw [if_neg hG0, if_neg hF0, hq]
                  obtain ⟨oo, rm, h1, h2, h4, h5, h6⟩ := hbgq _ e0
                  rw [e0]
                  simp only
                  rw [begin_fin h1 h2]
                  exact rtake_split s u d G o e N b m w hp l3 hf hm hh k hk3 hc hk (by omega) (by omega) p hq _ _ _ oo rm h2 ⟨h1, h4, h5, h6⟩ rfl rfl rfl
        · rw [if_neg hc]
          exact rtake_class s u d G o e N b m w hp l3 hf hm hh hc
end Go.Proofs.YtdmclfolooiccaaGreatDoor.Rp
end
section
namespace Go.Proofs.YtdmclfolooiccaaGreatDoor
open Go.RowKit
set_option maxRecDepth 100000

/-- Two heaps' boxes. -/
structure Two (w W : World) (s t : Hs) (d d2 : Hd_) : Prop where
  bel : Below w.heap.size w W
  b1 : HBox W w.heap.size s
  b2 : HBox W (w.heap.size + 1) t
  h1 : Hp W W.heap.size s d
  h2 : Hp W W.heap.size t d2
theorem Two.next {w W W' : World} {s t : Hs} {d d2 : Hd_} (h : Two w W s t d d2) (hb : Below W.heap.size W W') : Two w W' s t d d2 := ⟨h.bel.trans (hb.mono h.bel.size), h.b1.next hb, h.b2.next hb, h.h1.next hb, h.h2.next hb⟩
theorem two_start {w W : World} {s t : Hs} {d d2 : Hd_} (hp : Hp w w.heap.size s d) (ht : Hp w w.heap.size t d2) (h : W = (w.alloc (.cells #[.slice s.w.a s.w.n s.w.c, .slice s.p.a s.p.n s.p.c, .slice (s.u 0).a (s.u 0).n (s.u 0).c, .slice (s.u 1).a (s.u 1).n (s.u 1).c, .slice (s.u 2).a (s.u 2).n (s.u 2).c, .slice s.c.a s.c.n s.c.c] 28)).alloc (.cells #[.slice t.w.a t.w.n t.w.c, .slice t.p.a t.p.n t.p.c, .slice (t.u 0).a (t.u 0).n (t.u 0).c, .slice (t.u 1).a (t.u 1).n (t.u 1).c, .slice (t.u 2).a (t.u 2).n (t.u 2).c, .slice t.c.a t.c.n t.c.c] 28)) : Two w W s t d d2 := by
  have hb : Below w.heap.size w W := by rw [h]; exact ((Below.refl _ _).alloc (Nat.le_refl _) _).alloc (by simp) _
  have bx : Below (w.alloc (.cells #[.slice s.w.a s.w.n s.w.c, .slice s.p.a s.p.n s.p.c, .slice (s.u 0).a (s.u 0).n (s.u 0).c, .slice (s.u 1).a (s.u 1).n (s.u 1).c, .slice (s.u 2).a (s.u 2).n (s.u 2).c, .slice s.c.a s.c.n s.c.c] 28)).heap.size (w.alloc (.cells #[.slice s.w.a s.w.n s.w.c, .slice s.p.a s.p.n s.p.c, .slice (s.u 0).a (s.u 0).n (s.u 0).c, .slice (s.u 1).a (s.u 1).n (s.u 1).c, .slice (s.u 2).a (s.u 2).n (s.u 2).c, .slice s.c.a s.c.n s.c.c] 28)) W := by rw [h]; exact (Below.refl _ _).alloc (Nat.le_refl _) _
  have z := HBox.new (w.alloc (.cells #[.slice s.w.a s.w.n s.w.c, .slice s.p.a s.p.n s.p.c, .slice (s.u 0).a (s.u 0).n (s.u 0).c, .slice (s.u 1).a (s.u 1).n (s.u 1).c, .slice (s.u 2).a (s.u 2).n (s.u 2).c, .slice s.c.a s.c.n s.c.c] 28)) t 28
  rw [World.size_alloc] at z
  exact ⟨hb, (HBox.new w s 28).next bx, by rw [h]; exact z, hp.next hb, ht.next hb⟩
set_option maxHeartbeats 1000000 in
theorem rsame_yes (s : Hs) (d d2 : Hd_) (A1 A2 A3 : Option Addr) (C1 C2 C3 : Nat) (v : Nat → Ls.Sl) (w : World) (hp : Hp w w.heap.size s d) (ht : Hp w w.heap.size ⟨⟨A1, s.w.n, C1⟩, ⟨A2, s.p.n, C2⟩, v, ⟨A3, s.c.n, C3⟩⟩ d2) (e1 : d2.ws = d.ws) (e2 : ∀ i, i < s.p.n → d2.f i = d.f i) (e3 : ∀ j, j < 3 → d.F j = d2.F j) (e4 : ∀ i, i < s.c.n → d2.cs i = d.cs i)
    (hwn : s.w.n ≤ 4000) (hpn : s.p.n ≤ 1000) (hcn : s.c.n ≤ 100000) (hun : ∀ j, j < 3 → (s.u j).n ≤ 4000000) (hvn : ∀ j, j < 3 → (v j).n ≤ 4000000) :
    Calls Tryz.prog 9 #[(.agg #[.slice s.w.a s.w.n s.w.c, .slice s.p.a s.p.n s.p.c, .slice (s.u 0).a (s.u 0).n (s.u 0).c, .slice (s.u 1).a (s.u 1).n (s.u 1).c, .slice (s.u 2).a (s.u 2).n (s.u 2).c, .slice s.c.a s.c.n s.c.c]), (.agg #[.slice A1 s.w.n C1, .slice A2 s.p.n C2, .slice (v 0).a (v 0).n (v 0).c, .slice (v 1).a (v 1).n (v 1).c, .slice (v 2).a (v 2).n (v 2).c, .slice A3 s.c.n C3])] w fun e w' => e = .returned (.bool true) ∧ Below w.heap.size w w' := by
  have HP := Lib.hid hp
  have HT := Lib.hid ht
  have E1 := Lib.hid e1
  have E2 := Lib.hid e2
  have E3 := Lib.hid e3
  have E4 := Lib.hid e4
  have HUN := Lib.hid hun
  have HVN := Lib.hid hvn
  clear hp ht e1 e2 e3 e4 hun hvn
  go_enter Tryz.func9, Tryz.ntmps9
  go_wp2_with fail
  obtain ⟨W1, hW1⟩ : ∃ W1, W1 = (w.alloc (.cells #[.slice s.w.a s.w.n s.w.c, .slice s.p.a s.p.n s.p.c, .slice (s.u 0).a (s.u 0).n (s.u 0).c, .slice (s.u 1).a (s.u 1).n (s.u 1).c, .slice (s.u 2).a (s.u 2).n (s.u 2).c, .slice s.c.a s.c.n s.c.c] 28)).alloc (.cells #[.slice A1 s.w.n C1, .slice A2 s.p.n C2, .slice (v 0).a (v 0).n (v 0).c, .slice (v 1).a (v 1).n (v 1).c, .slice (v 2).a (v 2).n (v 2).c, .slice A3 s.c.n C3] 28) := ⟨_, rfl⟩
  have S1 := Lib.hid (two_start HP.out HT.out hW1)
  rw [← hW1]
  clear hW1
  refine (Ls.ints_tell W1.heap.size W1.heap.size s.w.a A1 s.w.n s.w.n s.w.c C1 d.ws d2.ws W1 (by omega) (by omega) S1.out.h1.words S1.out.h2.words).mono ?_
  rw [decide_eq_true E1.out.symm]
  rintro e9 w2 ⟨rfl, hb2⟩
  have S2 := Lib.hid (S1.out.next hb2)
  clear hb2 S1
  have q1 := S2.out.b1.c1
  have ql := S2.out.b1.lt
  have r1 := S2.out.b2.c1
  have rl := S2.out.b2.lt
  go_wp2_with fail
  refine (Cl.same_yes w2.heap.size w2.heap.size s.p.a A2 s.p.n s.p.c C2 d.f d2.f w2 hpn E2.out S2.out.h1.pages S2.out.h2.pages (Nat.le_refl _) (Nat.le_refl _)).mono ?_
  rintro e9 w3 ⟨rfl, hb3⟩
  have S3 := Lib.hid (S2.out.next hb3)
  clear hb3 S2 q1 ql r1 rl
  have q2 := S3.out.b1.c2
  have q3 := S3.out.b1.c3
  have q4 := S3.out.b1.c4
  have ql := S3.out.b1.lt
  have r2 := S3.out.b2.c2
  have r3 := S3.out.b2.c3
  have r4 := S3.out.b2.c4
  have rl := S3.out.b2.lt
  go_wp2_with fail
  refine (Ls.same_any w3.heap.size w3.heap.size s.u v d.F d2.F w3 S3.out.h1.free (Nat.le_refl _) S3.out.h2.free (Nat.le_refl _) HUN.out HVN.out).mono ?_
  rw [decide_eq_true (show Ls.sameUp d.F d2.F 3 from E3.out)]
  rintro e9 w4 ⟨rfl, hb4⟩
  have S4 := Lib.hid (S3.out.next hb4)
  clear hb4 S3 q2 q3 q4 ql r2 r3 r4 rl
  have q5 := S4.out.b1.c5
  have ql := S4.out.b1.lt
  have r5 := S4.out.b2.c5
  have rl := S4.out.b2.lt
  have dn : ((s.c.n : Int) != s.c.n) = false := by simp
  go_wp2
  go_loopw [8] (fun i wr => ∃ k : Nat, k ≤ s.c.n ∧ i = .int .i64 k ∧ Hid (Two w wr s ⟨⟨A1, s.w.n, C1⟩, ⟨A2, s.p.n, C2⟩, v, ⟨A3, s.c.n, C3⟩⟩ d d2)) (fun i _ => s.c.n - (intOf i).toNat)
  case atStart => exact ⟨0, Nat.zero_le _, rfl, S4⟩
  case round =>
    obtain ⟨k, hk, rfl, HR⟩ := hrel
    clear S4 q5 ql r5 rl
    have q5 := HR.out.b1.c5
    have ql := HR.out.b1.lt
    have r5 := HR.out.b2.c5
    have rl := HR.out.b2.lt
    by_cases hlt : k < s.c.n
    · have dq : decide ((k : Int) < s.c.n) = true := by simp; omega
      have ik0 : (0 : Int) ≤ k := by omega
      have ik1 : (k : Int) < s.c.n := by omega
      obtain ⟨b, off, ea, hbl, hc⟩ := HR.out.h1.cards (by omega)
      obtain ⟨b', off', ea', hbl', hc'⟩ := HR.out.h2.cards (show 0 < s.c.n by omega)
      have c1 := hc k hlt
      have c2 := hc' k hlt
      dsimp only at c2 ea' r5
      rw [E4.out k hlt] at c2
      rw [ea] at q5
      rw [ea'] at r5
      generalize d.cs k = x at c1 c2
      have dx : (x != x) = false := by simp
      clear hc hc' ea ea'
      go_wp2
      go_quiet (fail)
      have HR2 : Hid (Two w (wr.drewN nq) s ⟨⟨A1, s.w.n, C1⟩, ⟨A2, s.p.n, C2⟩, v, ⟨A3, s.c.n, C3⟩⟩ d d2) := Lib.hid (HR.out.next (below_drawn' (Below.refl _ _) nq))
      go_wp2
      go_roundw
      case rel => exact ⟨k + 1, by omega, by go_num, HR2⟩
      case measure => simp [intOf]; omega
    · have dq : decide ((k : Int) < s.c.n) = false := by simp; omega
      go_wp2
      go_ret
      exact ⟨rfl, HR.out.bel⟩
end Go.Proofs.YtdmclfolooiccaaGreatDoor
end
