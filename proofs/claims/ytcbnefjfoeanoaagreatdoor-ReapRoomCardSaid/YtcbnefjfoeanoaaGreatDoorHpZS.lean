/-
  Merged texts: AlTakeC, AlRoom, RpRmP, HpSix, AlIns.
-/
import Derived.Test.YtcbnefjfoeanoaaGreatDoorZAlTakeB
import Derived.Test.YtcbnefjfoeanoaaGreatDoorHpZK
import Derived.Test.YtcbnefjfoeanoaaGreatDoorHpZN
import Derived.Test.YtcbnefjfoeanoaaGreatDoorRows
import Derived.WalkKit
import Derived.ProofKit
import Derived.OpenShut
import Derived.Deep.Fields
import Derived.Test.YtcbnefjfoeanoaaGreatDoorHpZJ
section
namespace Go.Proofs.YtcbnefjfoeanoaaGreatDoor
open Go.RowKit
set_option maxRecDepth 100000

theorem ahead_one (G : Nat → List Int) : ahead G (fun _ => G) = fun _ => G := by
  funext k
  cases k <;> rfl
theorem Fit.of {s t : Hs} (h : Fit s) (hl : Lens s t) : Fit t := ⟨by rw [hl.1]; exact h.w, by rw [hl.1, hl.2.1]; exact h.wp, by rw [hl.2.1]; exact h.p⟩
theorem sto_sizes {W : World} {b : Nat} {s t : Hs} {u v : Nat → Ls.Sl} {d : Hd_} {G : Nat → List Int} (hf : FineT s d u G) (hL : ∀ j, j < 3 → (u j).n = (G j).length) (hs : Sto W b t v d G) (hl : Lens s t) : (∀ j, j < 3 → (t.u j).n ≤ 1000000) ∧ (∀ j, j < 3 → (v j).n ≤ 1000000) :=
  ⟨fun j hj => by have := hl.2.2.1 j hj; have := hf.lu j hj; omega, fun j hj => by have := hs.l3.len j hj; have := hL j hj; have := hf.lg j hj; omega⟩
theorem how_any {s : Hs} {d : Hd_} {u : Nat → Ls.Sl} {G : Nat → List Int} {o e : Bool} {N b m : Int} (hf : FineT s d u G) (hL : ∀ j, j < 3 → (u j).n = (G j).length) (hm : mayH s d 1 (fun _ => G) = true) (hh : Hd.mayB true o e N b m = true) : How s d G N (Hd.word true o e N b m) (tkR s d G true o e N b m) := by
  have hfit := fit_first (mayH_all hm).1
  have hok : Okay s.p.n d G 0 (fun _ => G) := (okay_iff.1 (by rw [ahead_one]; exact hm)).2
  have ha : argE s d G true o e N b m = Cl.classErr N := if_pos ⟨hm, hh, rfl⟩
  unfold tkR
  rw [ha]
  by_cases he : Cl.classErr N = 0
  · rw [if_pos he]
    cases hq : takeO d s.p.n G N with
    | none => exact .inl ⟨4, by decide, rfl, fun W b' t v hs _ hz hl => take_no b' t v d G W N hs hz (hfit.of hl) he (by rw [hl.2.1]; exact hq)⟩
    | some q => exact .inr ⟨q, rfl, (takeO_some (r := 0) (R := fun _ => G) hq).cell hok, fun W b' t v hs h0 hz hl => take_yes b' t v d G W N q hs hz h0 (hfit.of hl) (sto_sizes hf hL hs hl).1 (sto_sizes hf hL hs hl).2 he (by rw [hl.2.1]; exact hq)⟩
  · rw [if_neg he]
    exact .inl ⟨Cl.classErr N, he, rfl, fun W b' _ _ _ _ hz _ => take_err b' W N _ rfl he hz⟩
theorem ptake_any (s : Hs) (u : Nat → Ls.Sl) (d : Hd_) (G : Nat → List Int) (us o e : Bool) (N b m : Int) (w : World) (hp : Hp w w.heap.size s d) (l3 : Ls.L3 w w.heap.size u G) (hz : Cl.Sz w) (hf : FineT s d u G) :
    Calls Tryz.prog 11 #[(.agg #[.slice s.w.a s.w.n s.w.c, .slice s.p.a s.p.n s.p.c, .slice (s.u 0).a (s.u 0).n (s.u 0).c, .slice (s.u 1).a (s.u 1).n (s.u 1).c, .slice (s.u 2).a (s.u 2).n (s.u 2).c, .slice s.c.a s.c.n s.c.c]), (.agg #[.slice (u 0).a (u 0).n (u 0).c, .slice (u 1).a (u 1).n (u 1).c, .slice (u 2).a (u 2).n (u 2).c]), .agg #[.bool us, .bool o, .bool e, .int .i64 N, .int .i64 b, .int .i64 m]] w (TakeOut w (tkR s d G us o e N b m)) := by
  have hno : ∀ (_ : ¬ (mayH s d 1 (fun _ => G) = true ∧ Hd.mayB us o e N b m = true ∧ us = true)), tkR s d G us o e N b m = tkNo 1 := fun h => by
    have ha : argE s d G us o e N b m = 1 := if_neg h
    unfold tkR
    rw [ha, if_neg (by decide)]
  cases hm : mayH s d 1 (fun _ => G)
  · rw [hno (by rw [hm]; exact fun h => by cases h.1)]
    exact ptake_may s u d G us o e N b m w hp l3 hz hf hm
  · cases hh : Hd.mayB us o e N b m
    · rw [hno (by rw [hh]; exact fun h => by cases h.2.1)]
      exact ptake_head s u d G us o e N b m w hp l3 hz hf hm hh
    · cases us
      · rw [hno (fun h => by cases h.2.2)]
        exact ptake_used s u d G o e N b m w hp l3 hz hf hm hh
      · exact ptake_rest s u d G o e N b m w hp l3 hz hf hm hh _ (how_any hf l3.len hm hh) (fit_first (mayH_all hm).1)
end Go.Proofs.YtcbnefjfoeanoaaGreatDoor
end
section
namespace Go.Proofs.YtcbnefjfoeanoaaGreatDoor
open Go.RowKit
set_option maxRecDepth 100000

def roomB (s : Hs) (d : Hd_) (G : Nat → List Int) (N : Int) : Bool := (tkR s d G true false false N 0 0).er == 0
theorem room_any (s : Hs) (u : Nat → Ls.Sl) (d : Hd_) (G : Nat → List Int) (N : Int) (w : World) (hp : Hp w w.heap.size s d) (l3 : Ls.L3 w w.heap.size u G) (hz : Cl.Sz w) (hf : FineT s d u G) :
    Calls Tryz.prog 15 #[(.agg #[.slice s.w.a s.w.n s.w.c, .slice s.p.a s.p.n s.p.c, .slice (s.u 0).a (s.u 0).n (s.u 0).c, .slice (s.u 1).a (s.u 1).n (s.u 1).c, .slice (s.u 2).a (s.u 2).n (s.u 2).c, .slice s.c.a s.c.n s.c.c]), (.agg #[.slice (u 0).a (u 0).n (u 0).c, .slice (u 1).a (u 1).n (u 1).c, .slice (u 2).a (u 2).n (u 2).c]), .int .i64 N] w fun e w' => e = .returned (.bool (roomB s d G N)) ∧ Below w.heap.size w w' := by
  have HP := Lib.hid hp
  have HL := Lib.hid l3
  have HZ := Lib.hid hz
  have hz0 := hz.pos
  have HF := Lib.hid hf
  obtain ⟨r, hr⟩ : ∃ r, r = tkR s d G true false false N 0 0 := ⟨_, rfl⟩
  have HR := Lib.hid hr
  have HB : Hid (roomB s d G N = (r.er == 0)) := Lib.hid (by rw [hr]; rfl)
  obtain ⟨bb, hbb⟩ : ∃ bb, bb = roomB s d G N := ⟨_, rfl⟩
  rw [← hbb] at HB ⊢
  clear hp l3 hz hf hr hbb
  go_enter Tryz.func15, Tryz.ntmps15
  go_wp2_with fail
  obtain ⟨W1, hW1⟩ : ∃ W1, W1 = (w.alloc (.cells #[.slice s.w.a s.w.n s.w.c, .slice s.p.a s.p.n s.p.c, .slice (s.u 0).a (s.u 0).n (s.u 0).c, .slice (s.u 1).a (s.u 1).n (s.u 1).c, .slice (s.u 2).a (s.u 2).n (s.u 2).c, .slice s.c.a s.c.n s.c.c] 28)).alloc (.cells #[.slice (u 0).a (u 0).n (u 0).c, .slice (u 1).a (u 1).n (u 1).c, .slice (u 2).a (u 2).n (u 2).c] 25) := ⟨_, rfl⟩
  have b1 : Below w.heap.size w W1 := by rw [hW1]; exact ((Below.refl _ _).alloc (Nat.le_refl _) _).alloc (by simp) _
  have B1 := Lib.hid b1
  rw [← hW1]
  clear hW1 b1
  refine (ptake_any s u d G true false false N 0 0 W1 (HP.out.next B1.out |>.more (Nat.le_refl _)) (HL.out.next B1.out) (HZ.out.over B1.out hz0) HF.out).mono ?_
  rw [← HR.out]
  rintro e9 w2 ⟨t, v, rfl, _, _, _, hb2⟩
  have B2 := Lib.hid (B1.out.trans (hb2.mono B1.out.size))
  clear hb2
  go_wp2
  go_ret
  have hs2 := B2.out.size
  exact ⟨by rw [HB.out]; rfl, (B2.out.alloc hs2 _).alloc (by simp; omega) _⟩
/-- All caches are light. -/
def lights (U : Nat → Nat → Ls.Sl) (m : Nat) : Bool := (List.range m).all fun i => lightB (U i)
def fewL (s : Hs) (U : Nat → Nat → Ls.Sl) (m : Nat) : Bool := (fewH s && lights U m) && decide (m ≤ 4)
theorem lights_succ (U : Nat → Nat → Ls.Sl) (m : Nat) : lights U (m + 1) = (lights U m && lightB (U m)) := by simp [lights, List.range_succ]
theorem few8_any (s : Hs) (A : Option Addr) (n c : Nat) (U : Nat → Nat → Ls.Sl) (F : Nat → Nat → List Int) (w : World) (hn : n ≤ 9223372036854775807) (hl : Ls.LRow w w.heap.size A n U F) :
    Calls Tryz.prog 9 #[(.agg #[.slice s.w.a s.w.n s.w.c, .slice s.p.a s.p.n s.p.c, .slice (s.u 0).a (s.u 0).n (s.u 0).c, .slice (s.u 1).a (s.u 1).n (s.u 1).c, .slice (s.u 2).a (s.u 2).n (s.u 2).c, .slice s.c.a s.c.n s.c.c]), .slice A n c] w fun e w' => e = .returned (.bool (fewL s U n)) ∧ Below w.heap.size w w' := by
  have HL := Lib.hid hl
  clear hl
  go_enter Tryz.func9, Tryz.ntmps9
  go_wp2_with fail
  have b0 := (Below.refl w.heap.size w).alloc (Nat.le_refl _) (.cells #[.slice s.w.a s.w.n s.w.c, .slice s.p.a s.p.n s.p.c, .slice (s.u 0).a (s.u 0).n (s.u 0).c, .slice (s.u 1).a (s.u 1).n (s.u 1).c, .slice (s.u 2).a (s.u 2).n (s.u 2).c, .slice s.c.a s.c.n s.c.c] 28)
  refine (rfew_any s _).mono ?_
  rintro e w1 ⟨rfl, hb1⟩
  have B1 := Lib.hid (b0.trans (hb1.mono b0.size))
  clear b0 hb1
  go_wp2
  go_loopw [5, 6] (fun q i wr => ∃ k : Nat, k ≤ n ∧ q = .bool (fewH s && lights U k) ∧ i = .int .i64 k ∧ Hid (Below w.heap.size w wr)) (fun _ i _ => n - (intOf i).toNat)
  case atStart => exact ⟨0, Nat.zero_le _, by simp [lights], rfl, B1⟩
  case round =>
    obtain ⟨k, hk, rfl, rfl, HB⟩ := hrel
    clear B1
    by_cases hlt : k < n
    · have dq : decide ((k : Int) < n) = true := by simp; omega
      have ik0 : (0 : Int) ≤ k := by omega
      have ik1 : (k : Int) < n := by omega
      have hnx : (fewH s && lights U (k + 1)) = ((fewH s && lights U k) && lightB (U k)) := by rw [lights_succ, Bool.and_assoc]
      have HNX := Lib.hid hnx
      obtain ⟨q, hq⟩ : ∃ q, q = (fewH s && lights U k) := ⟨_, rfl⟩
      rw [← hq] at HNX ⊢
      clear hnx hq
      cases q
      · go_wp2
        go_roundw
        case rel => exact ⟨k + 1, by omega, by rw [HNX.out]; rfl, by go_num, HB⟩
        case measure => simp [intOf]; omega
      · obtain ⟨b, off, rfl, hbl, hc⟩ := HL.out (by omega)
        have h0 := (hc k hlt).1 0 (by decide)
        have h1 := (hc k hlt).1 1 (by decide)
        have h2 := (hc k hlt).1 2 (by decide)
        have c0 := (HB.out.cell (p := ⟨b, off + k * 3 + 0, none⟩) hbl).trans h0
        have c1 := (HB.out.cell (p := ⟨b, off + k * 3 + 1, none⟩) hbl).trans h1
        have c2 := (HB.out.cell (p := ⟨b, off + k * 3 + 2, none⟩) hbl).trans h2
        have cl : b < wr.heap.size := by have := HB.out.size; omega
        rw [Nat.add_zero] at c0
        clear h0 h1 h2 hc
        go_wp2_with fail
        refine (rlight_any (U k) wr).mono ?_
        rintro e9 w5 ⟨rfl, hb5⟩
        have B5 := Lib.hid (HB.out.trans (hb5.mono HB.out.size))
        clear hb5 c0 c1 c2 cl
        go_wp2
        go_roundw
        case rel => exact ⟨k + 1, by omega, by rw [HNX.out]; rfl, by go_num, B5⟩
        case measure => simp [intOf]; omega
    · have dq : decide ((k : Int) < n) = false := by simp; omega
      obtain rfl : k = n := by omega
      have d4 : decide ((k : Int) ≤ 4) = decide (k ≤ 4) := by rw [decide_eq_decide]; omega
      have HE : Hid (fewL s U k = ((fewH s && lights U k) && decide (k ≤ 4))) := Lib.hid rfl
      obtain ⟨q, hq⟩ : ∃ q, q = (fewH s && lights U k) := ⟨_, rfl⟩
      rw [← hq] at HE ⊢
      clear hq hlt
      by_cases h4 : k ≤ 4
      · have d5 : decide ((k : Int) ≤ 4) = true := by simp; omega
        rw [decide_eq_true h4] at HE
        clear d4
        cases q
        · go_wp2
          go_ret
          exact ⟨by rw [HE.out]; rfl, HB.out⟩
        · go_wp2
          go_ret
          exact ⟨by rw [HE.out]; rfl, HB.out⟩
      · have d5 : decide ((k : Int) ≤ 4) = false := by simp; omega
        rw [decide_eq_false h4] at HE
        clear d4
        cases q
        · go_wp2
          go_ret
          exact ⟨by rw [HE.out]; rfl, HB.out⟩
        · go_wp2
          go_ret
          exact ⟨by rw [HE.out]; rfl, HB.out⟩
end Go.Proofs.YtcbnefjfoeanoaaGreatDoor
end
section
namespace Go.Proofs.YtcbnefjfoeanoaaGreatDoor
open Go.RowKit
set_option maxRecDepth 100000

theorem find_is {f : Nat → Int × Int} {n k : Nat} {m : Int} (hm : Cl.mayB f n = true) (hr : Cl.runB m = true) (hk : k + m.toNat ≤ n) (hf : Cl.freeB f k m.toNat = true) : ∃ p, Cl.findO f n m = some p := by
  unfold Cl.findO
  rw [if_pos (by rw [hm, hr]; rfl)]
  cases e : (List.range (n + 1 - m.toNat)).find? (fun k => Cl.freeB f k m.toNat) with
  | some p => exact ⟨p, rfl⟩
  | none => exact absurd hf (List.find?_eq_none.1 e k (List.mem_range.2 (by omega)))
theorem runs_large {N : Int} (h : Cl.runErr N = 0) : Cl.classOf N = 3 := by
  unfold Cl.runErr at h
  unfold Cl.classOf
  split at h
  · omega
  · split at h
    · omega
    · split at h
      · omega
      · rw [if_neg (by omega), if_neg (by omega), if_neg (by omega), if_neg (by omega)]
/-- What fits a used cell. -/
theorem cell_fits {d : Hd_} {n : Nat} {a : Int} (hb : ¬ Cl.bg d.f n a = 0) (hw : ¬ wd d a = 0) (hm : Cl.mayB d.f n = true) (hc : cellAt d a = true) :
    Hd.isWord (wd d a) = true ∧ Cl.classErr (nOf (wd d a)) = 0 ∧ ((pgAt d a = (1, Cl.classOf (nOf (wd d a))) ∧ ¬ Cl.classOf (nOf (wd d a)) = 3) ∨ (pgAt d a = (2, Cl.runOf (nOf (wd d a))) ∧ Cl.classOf (nOf (wd d a)) = 3)) := by
  have hu := word_used hc
  have h1 : wd d a % 2 = 1 := Classical.byContradiction fun hn => hw (hu.2 hn).2
  have hcB : cellB (wd d a) (pgAt d a) = true := hc
  have hp := bg_page hb
  have hpn : (a / 16 - 1).toNat < n := by have := hp.2.1; have := hp.2.2.1; omega
  unfold cellB at hcB
  rw [if_pos ⟨hu.1, h1⟩, Bool.and_eq_true, beq_iff_eq] at hcB
  refine ⟨hu.1, hcB.1, ?_⟩
  rcases kind_of hb with hk | hk
  · rw [if_pos hk, beq_iff_eq] at hcB
    have hs := (small_kind hm hpn hk).1
    have e : pgAt d a = (1, Cl.classOf (nOf (wd d a))) := Prod.ext hk hcB.2.symm
    refine .inl ⟨e, fun h3 => ?_⟩
    have h4 : (pgAt d a).2.toNat < 3 := hs
    rw [e, h3] at h4
    exact absurd h4 (by decide)
  · rw [if_neg (by rw [hk]; decide), Bool.and_eq_true, beq_iff_eq, beq_iff_eq] at hcB
    exact .inr ⟨Prod.ext hk hcB.2.2.symm, runs_large hcB.2.1⟩
section
variable {s t : Hs} {d : Hd_} {a : Int}
theorem room_take (hws : d.ws.length = s.w.n) (hE : headE s d a = 0) : ∃ q, takeO (freedD d s.p.n a) s.p.n Ls.noLists (nOf (wd d a)) = some q := by
  obtain ⟨h0, h1, h2⟩ := head_is hE
  have hO := (may0_iff.1 h0).2
  have hp := bg_page h1
  have hpn : (a / 16 - 1).toNat < s.p.n := by have := hp.2.1; have := hp.2.2.1; omega
  have hmay := ((freed_is hws hE).okay _ _ _ hO).may
  obtain ⟨hiw, hce, hfit⟩ := cell_fits h1 h2 hO.may (hO.cell a h1 (bg_zero _ _ h1))
  unfold takeO
  rcases hfit with ⟨e, h3⟩ | ⟨e, h3⟩
  · rw [if_neg h3]
    have e1 : (pgAt d a).1 = 1 := by rw [e]
    have e2 : (pgAt d a).2 = Cl.classOf (nOf (wd d a)) := by rw [e]
    have key : ∃ q, smallO (freedD d s.p.n a) s.p.n Ls.noLists (Cl.classOf (nOf (wd d a))).toNat = some q := by
      unfold smallO
      rw [if_neg (by simp [Ls.noLists])]
      split
      · exact ⟨_, rfl⟩
      · next hF =>
        have : ∃ p, Cl.findO (freedD d s.p.n a).f s.p.n 1 = some p := by
          refine find_is (k := (a / 16 - 1).toNat) hmay (by decide) (by show _ + 1 ≤ _; omega) ((Cl.freeB_iff _ _ _).2 fun j hj => ?_)
          have hj0 : j = 0 := by have : j < 1 := hj; omega
          subst hj0
          unfold freedD at hF ⊢
          rw [if_pos e1] at hF ⊢
          unfold backD at hF ⊢
          split at hF
          · next hg =>
            rw [if_pos hg]
            exact congrArg Prod.fst (drop_self (given_parts hg).1)
          · next hg =>
            exfalso
            refine hF ?_
            show 0 < (Ls.upd d.F (pgAt d a).2.toNat _ _).length
            rw [e2, Ls.upd_same, List.length_append]
            simp
        obtain ⟨p, hp⟩ := this
        rw [hp]
        exact ⟨_, rfl⟩
    obtain ⟨q, hq⟩ := key
    rw [hq]
    exact ⟨_, rfl⟩
  · rw [if_pos h3]
    have e1 : (pgAt d a).1 = 2 := by rw [e]
    obtain ⟨_, r1, r4⟩ := class_large hce h3
    have hw := Cl.wide_facts hO.may hpn (.inr e1)
    have hwide : Cl.wide d.f (a / 16 - 1).toNat = Cl.runOf (nOf (wd d a)) := by
      unfold Cl.wide
      rw [if_pos (show (d.f (a / 16 - 1).toNat).1 = 2 from e1)]
      show (pgAt d a).2 = _
      rw [e]
    rw [hwide] at hw
    have : ∃ p, Cl.findO (freedD d s.p.n a).f s.p.n (Cl.runOf (nOf (wd d a))) = some p := by
      refine find_is (k := (a / 16 - 1).toNat) hmay (by unfold Cl.runB; simp; omega) (by have := hw.2.2.1; omega) ((Cl.freeB_iff _ _ _).2 fun j hj => ?_)
      unfold freedD
      rw [if_neg (by rw [e1]; decide)]
      show (Cl.drop d.f (a / 16 - 1).toNat ((a / 16 - 1).toNat + j)).1 = 0
      unfold Cl.drop
      rw [if_pos ⟨by omega, by rw [hwide]; omega⟩]
    obtain ⟨p, hp⟩ := this
    rw [hp]
    exact ⟨_, rfl⟩
theorem room_back (hws : d.ws.length = s.w.n) (hE : headE s d a = 0) (hl : Same3 s t) : roomB t (freedD d s.p.n a) Ls.noLists (nOf (wd d a)) = true := by
  obtain ⟨h0, h1, h2⟩ := head_is hE
  have hO := (may0_iff.1 h0).2
  obtain ⟨hiw, hce, _⟩ := cell_fits h1 h2 hO.may (hO.cell a h1 (bg_zero _ _ h1))
  have hm0 := freed_may0 hws hE hl
  have hm1 : mayH t (freedD d s.p.n a) 1 (fun _ => Ls.noLists) = true := by
    rw [← ahead_one Ls.noLists, show (1 : Nat) = 1 + 0 from rfl, may_nil]
    exact hm0
  have hN := class_cases hce
  have hx : Hd.mayB true false false (nOf (wd d a)) 0 0 = true := (Hd.may_used_iff _ _ _ _ _).2 ⟨by omega, by omega, by omega, by omega, by omega, by omega⟩
  have ha : argE t (freedD d s.p.n a) Ls.noLists true false false (nOf (wd d a)) 0 0 = 0 := by
    unfold argE
    rw [if_pos ⟨hm1, hx, rfl⟩]
    exact hce
  obtain ⟨q, hq⟩ := room_take hws hE
  unfold roomB tkR
  rw [if_pos ha, hl.2.1, hq]
  rfl
theorem head_val (hE : headE s d a = 0) : headV s d a = .agg #[.bool (decide (wd d a % 2 = 1)), .bool (decide (wd d a / 2 % 2 = 1)), .bool (decide (wd d a / 4 % 2 = 1)), .int .i64 (nOf (wd d a)), .int .i64 (wd d a / 1024 % 4194304), .int .i64 (wd d a / 4294967296)] := by
  obtain ⟨h0, h1, h2⟩ := head_is hE
  have hO := (may0_iff.1 h0).2
  unfold headV
  rw [if_pos hE, headOf_yes (cell_fits h1 h2 hO.may (hO.cell a h1 (bg_zero _ _ h1))).1]
end
end Go.Proofs.YtcbnefjfoeanoaaGreatDoor
end
section
namespace Go.Proofs.YtcbnefjfoeanoaaGreatDoor
open Go.ChangeShapes Go.WideShapes Go.ChangeAt Go.RowKit Go.Deep

theorem cellsHead : Tryz.prog.cellsOf 30 = 6 := by kernel_rfl
section
variable {H : Type} {enc : TypeId × Value → H} {P : Program} {w : World} {base : Nat} {spare : Nat → Bool} {held : Bool}

/-- A struct of three bools and three numbers, taken apart. -/
theorem six_open {r : Reach} {b0 : Nat} {t tb ti : TypeId} {f0 f1 f2 f3 f4 f5 : Field} {v : Value} {d : DataW H} {p : List MemPlace} (hs : P.underlying t = some (.struct #[f0, f1, f2, f3, f4, f5])) (ct : P.cellsOf t = 6)
    (hone : oneCellFields P #[f0, f1, f2, f3, f4, f5] = true) (ht : [f0.type, f1.type, f2.type, f3.type, f4.type, f5.type] = [tb, tb, tb, ti, ti, ti])
    (hb : P.underlying tb = some .bool) (hi : P.underlying ti = some (.int .i64)) (hv : Value.okWide P w r b0 t v) (h : DataW.Trod enc P w base spare held t v d p) :
    ∃ (u o e : Bool) (n b m : Int), v = .agg #[.bool u, .bool o, .bool e, .int .i64 n, .int .i64 b, .int .i64 m] ∧
      d = .agg [.lit (.bool u), .lit (.bool o), .lit (.bool e), .lit (.int .i64 n), .lit (.int .i64 b), .lit (.int .i64 m)] ∧ p = [] ∧
      (Lit.int .i64 n).wf = true ∧ (Lit.int .i64 b).wf = true ∧ (Lit.int .i64 m).wf = true := by
  simp only [List.cons.injEq, and_true] at ht
  obtain ⟨t0, t1, t2, t3, t4, t5⟩ := ht
  obtain ⟨⟨l⟩, rfl, hsz⟩ := okWide_struct hs hv
  obtain ⟨fuel, hf⟩ := h
  obtain ⟨xs, k, _, hx, hl, hlen, hg⟩ := DataW.trod_struct hs hf
  have hl6 : l.length = 6 := by simpa [ct] using hsz
  have field : ∀ (i : Nat) (f : Field), (#[f0, f1, f2, f3, f4, f5] : Array Field)[i]? = some f → DataW.trod enc P w base spare held k f.type ((l.drop i).take 1) = xs[i]? := by
    intro i f hif
    have hfo := hone_of hone i f hif
    have := hg i f hif
    rw [hfo.1, hfo.2] at this
    exact this
  match l, hl6, xs, hlen with
  | [c0, c1, c2, c3, c4, c5], _, [y0, y1, y2, y3, y4, y5], _ =>
    obtain ⟨u, e0, rfl⟩ := DataW.trod_bool hb (by have := field 0 f0 rfl; rw [t0] at this; exact this)
    obtain ⟨o, e1, rfl⟩ := DataW.trod_bool hb (by have := field 1 f1 rfl; rw [t1] at this; exact this)
    obtain ⟨e, e2, rfl⟩ := DataW.trod_bool hb (by have := field 2 f2 rfl; rw [t2] at this; exact this)
    obtain ⟨n, e3, rfl, w3⟩ := DataW.trod_int hi (by have := field 3 f3 rfl; rw [t3] at this; exact this)
    obtain ⟨b, e4, rfl, w4⟩ := DataW.trod_int hi (by have := field 4 f4 rfl; rw [t4] at this; exact this)
    obtain ⟨m, e5, rfl, w5⟩ := DataW.trod_int hi (by have := field 5 f5 rfl; rw [t5] at this; exact this)
    simp at e0 e1 e2 e3 e4 e5
    subst e0 e1 e2 e3 e4 e5
    simp at hx
    exact ⟨u, o, e, n, b, m, rfl, hx.1, hx.2, w3, w4, w5⟩

/-- .. and read again, wherever. -/
theorem six_shut {t tb ti : TypeId} {f0 f1 f2 f3 f4 f5 : Field} (hs : P.underlying t = some (.struct #[f0, f1, f2, f3, f4, f5])) (ct : P.cellsOf t = 6)
    (hone : oneCellFields P #[f0, f1, f2, f3, f4, f5] = true) (ht : [f0.type, f1.type, f2.type, f3.type, f4.type, f5.type] = [tb, tb, tb, ti, ti, ti])
    (hb : P.underlying tb = some .bool) (hi : P.underlying ti = some (.int .i64)) (u o e : Bool) (n b m : Int)
    (wn : (Lit.int .i64 n).wf = true) (wb : (Lit.int .i64 b).wf = true) (wm : (Lit.int .i64 m).wf = true) :
    DataW.Trod enc P w base spare held t (.agg #[.bool u, .bool o, .bool e, .int .i64 n, .int .i64 b, .int .i64 m]) (.agg [.lit (.bool u), .lit (.bool o), .lit (.bool e), .lit (.int .i64 n), .lit (.int .i64 b), .lit (.int .i64 m)]) [] := by
  simp only [List.cons.injEq, and_true] at ht
  obtain ⟨t0, t1, t2, t3, t4, t5⟩ := ht
  obtain ⟨o0, k0⟩ := hone_of hone 0 f0 rfl
  obtain ⟨o1, k1⟩ := hone_of hone 1 f1 rfl
  obtain ⟨o2, k2⟩ := hone_of hone 2 f2 rfl
  obtain ⟨o3, k3⟩ := hone_of hone 3 f3 rfl
  obtain ⟨o4, k4⟩ := hone_of hone 4 f4 rfl
  obtain ⟨o5, k5⟩ := hone_of hone 5 f5 rfl
  rw [t0] at k0
  rw [t1] at k1
  rw [t2] at k2
  rw [t3] at k3
  rw [t4] at k4
  rw [t5] at k5
  have hm := trod_struct_mk (enc := enc) (w := w) (base := base) (spare := spare) (held := held) (n := 1) (cs := [.bool u, .bool o, .bool e, .int .i64 n, .int .i64 b, .int .i64 m])
    (xs := [(.lit (.bool u), []), (.lit (.bool o), []), (.lit (.bool e), []), (.lit (.int .i64 n), []), (.lit (.int .i64 b), []), (.lit (.int .i64 m), [])]) hs (by rw [ct]; rfl)
    (by simp [t0, t1, t2, t3, t4, t5, o0, o1, o2, o3, o4, o5, k0, k3, DataW.trod, hb, hi, wn, wb, wm])
  exact ⟨2, by simpa [Value.cells] using hm⟩
end
end Go.Proofs.YtcbnefjfoeanoaaGreatDoor
end
section
namespace Go.Proofs.YtcbnefjfoeanoaaGreatDoor
open Go.ChangeShapes Go.WideShapes Go.ChangeAt Go.RowKit Go.Deep
set_option maxRecDepth 100000

theorem lists_of {H : Type} {enc : TypeId × Value → H} {w : World} {base b0 : Nat} {spare : Nat → Bool} {held : Bool} {v : Value} {d : DataW H} {p : List MemPlace} {r : Reach}
    (hv : Value.okWide Tryz.prog w r b0 25 v) (h : DataW.Trod enc Tryz.prog w base spare held 25 v d p) :
    ∃ (u : Nat → Ls.Sl) (f : Nat → List Int), v = (.agg #[.slice (u 0).a (u 0).n (u 0).c, .slice (u 1).a (u 1).n (u 1).c, .slice (u 2).a (u 2).n (u 2).c]) ∧ Ls.L3 w w.heap.size u f ∧ (u 0).n + (u 1).n + (u 2).n ≤ Rows.uptoBulk d := by
  simp only [Value.okWide, Tryz.underlying25] at hv
  obtain ⟨cs, rfl, hs, _⟩ := hv
  obtain ⟨fuel, hf⟩ := h
  obtain ⟨l⟩ := cs
  have h3 : l.length = 3 := hs.trans (by kernel_rfl)
  match l, h3 with
  | [c0, c1, c2], _ =>
    obtain ⟨u, f, e, h1, h2⟩ := lists_in hf
    exact ⟨u, f, by rw [e], h1, h2⟩
theorem pin_cap {H : Type} {enc : TypeId × Value → H} {w : World} {base : Nat} {spare : Nat → Bool} {held : Bool} {fuel : Nat} {cs : List Value} {x : DataW H × List MemPlace}
    (h : DataW.trod enc Tryz.prog w base spare held fuel 23 cs = some x) : ∃ (s : Ls.Sl) (f : Nat → Int × Int), cs = [.slice s.a s.n s.c] ∧ Cl.PRow w w.heap.size s.a s.n f ∧ s.n ≤ s.c := by
  rcases open_slice_pairs Tryz.underlying23 Tryz.underlying81 (by kernel_rfl) rfl rfl (by kernel_rfl) (by kernel_rfl) h with ⟨hcs, _⟩ | ⟨x, l, c, m, n, V0, V1, D0, D1, P0, P1, hcs, _, hl, hm, hmm, _, hi⟩
  · exact ⟨⟨none, 0, 0⟩, fun _ => (0, 0), hcs, Cl.PRow.empty _ _ _ _, Nat.le_refl _⟩
  · refine ⟨⟨some x, l, c⟩, fun i => (intOf (V0 i), intOf (V1 i)), hcs, fun hn => ?_, hl⟩
    have hn' : 0 < l := hn
    have hm' : l ≤ m := by rw [hmm]; split <;> omega
    obtain ⟨b, off, spot⟩ := x
    have h0 := (hi 0 (by omega)).1
    have hs : spot = none := by simpa [Addr.add] using World.cell?_spot h0
    subst hs
    refine ⟨b, off, rfl, ?_, fun i hlt => ?_⟩
    · have := World.block_lt_of_cell? w _ h0
      simpa [Addr.add] using this
    · have hlt' : i < l := hlt
      obtain ⟨g0, g1, t0, t1⟩ := hi i (by omega)
      rw [Addr.add_lit] at g0 g1
      rw [← Nat.add_assoc] at g1
      obtain ⟨z0, e0, _⟩ := DataW.trod_int Tryz.underlying3 t0
      obtain ⟨z1, e1, _⟩ := DataW.trod_int Tryz.underlying3 t1
      simp only [List.cons.injEq, and_true] at e0 e1
      refine ⟨?_, ?_⟩
      · show _ = some (Value.int .i64 (intOf (V0 i)))
        rw [g0, e0]
        rfl
      · show _ = some (Value.int .i64 (intOf (V1 i)))
        rw [g1, e1]
        rfl
theorem heap_of8 {H : Type} {enc : TypeId × Value → H} {w : World} {base b0 : Nat} {spare : Nat → Bool} {held : Bool} {v : Value} {d : DataW H} {p : List MemPlace} {r : Reach}
    (hv : Value.okWide Tryz.prog w r b0 28 v) (h : DataW.Trod enc Tryz.prog w base spare held 28 v d p) :
    ∃ (s : Hs) (e : Hd_), v = (.agg #[.slice s.w.a s.w.n s.w.c, .slice s.p.a s.p.n s.p.c, .slice (s.u 0).a (s.u 0).n (s.u 0).c, .slice (s.u 1).a (s.u 1).n (s.u 1).c, .slice (s.u 2).a (s.u 2).n (s.u 2).c, .slice s.c.a s.c.n s.c.c]) ∧ Hp w w.heap.size s e ∧ Fit64 e.ws ∧ s.p.n ≤ s.p.c := by
  obtain ⟨⟨l⟩, rfl, hsz⟩ := okWide_struct Tryz.underlying28 hv
  obtain ⟨fuel, hf⟩ := h
  obtain ⟨xs, k, _, hx, hl, hlen, hg⟩ := DataW.trod_struct Tryz.underlying28 hf
  have hl6 : l.length = 6 := hsz.trans (by kernel_rfl)
  match l, hl6, xs, hlen with
  | [c0, c1, c2, c3, c4, c5], _, [y0, y1, y2, y3], _ =>
    have e22 : Tryz.prog.cellsOf 22 = 1 := by kernel_rfl
    have e23 : Tryz.prog.cellsOf 23 = 1 := by kernel_rfl
    have e25 : Tryz.prog.cellsOf 25 = 3 := by kernel_rfl
    have e26 : Tryz.prog.cellsOf 26 = 1 := by kernel_rfl
    have g0 : DataW.trod enc Tryz.prog w base spare held k 22 [c0] = some y0 := by have := hg 0 _ rfl; simpa [e22, Value.cells] using this
    have g1 : DataW.trod enc Tryz.prog w base spare held k 23 [c1] = some y1 := by have := hg 1 _ rfl; simpa [e23, Value.cells] using this
    have g2 : DataW.trod enc Tryz.prog w base spare held k 25 [c2, c3, c4] = some y2 := by have := hg 2 _ rfl; simpa [e25, Value.cells] using this
    have g3 : DataW.trod enc Tryz.prog w base spare held k 26 [c5] = some y3 := by have := hg 3 _ rfl; simpa [e26, Value.cells] using this
    obtain ⟨s0, zs, h0, r0, _, f0⟩ := ints_in g0
    obtain ⟨s1, f1, h1, r1, c1'⟩ := pin_cap g1
    obtain ⟨u, F, h2, r2, _⟩ := lists_in g2
    obtain ⟨s3, f3, h3, r3⟩ := bools_in g3
    simp only [List.cons.injEq, and_true] at h0 h1 h2 h3
    obtain ⟨rfl, rfl, rfl⟩ := h2
    subst h0 h1 h3
    refine ⟨⟨s0, s1, u, s3⟩, ⟨zs, f1, F, f3⟩, rfl, ⟨r0.1, r1, r2, r3⟩, f0, c1'⟩
end Go.Proofs.YtcbnefjfoeanoaaGreatDoor
end
