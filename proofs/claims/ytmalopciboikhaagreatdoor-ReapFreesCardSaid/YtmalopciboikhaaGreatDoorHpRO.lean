/-
  Merged texts: AlTakeC, AlRoom, RpRmP, RpRefF, RpRefL, LsInts, HpSame, HpSix, AlIns.
-/
import Derived.Test.YtmalopciboikhaaGreatDoorRAlTakeB
import Derived.Test.YtmalopciboikhaaGreatDoorHpRG
import Derived.Test.YtmalopciboikhaaGreatDoorHpRI
import Derived.Test.YtmalopciboikhaaGreatDoorHpRL
import Derived.Test.YtmalopciboikhaaGreatDoorHpRF
import Derived.Deep.QuietTactic
import Derived.BigQuiet
import Derived.Test.YtmalopciboikhaaGreatDoorHpRE
import Derived.Test.YtmalopciboikhaaGreatDoorHpRK
import Derived.Test.YtmalopciboikhaaGreatDoorRows
import Derived.WalkKit
import Derived.ProofKit
import Derived.OpenShut
import Derived.Deep.Fields
section
namespace Go.Proofs.YtmalopciboikhaaGreatDoor
open Go.RowKit
set_option maxRecDepth 100000

theorem ahead_one (G : Nat → List Int) : ahead G (fun _ => G) = fun _ => G := by
  funext k
  cases k <;> rfl
theorem Fit.of {s t : Hs} (h : Fit s) (hl : Lens s t) : Fit t := ⟨by rw [hl.1]; exact h.w, by rw [hl.1, hl.2.1]; exact h.wp, by rw [hl.2.1]; exact h.p⟩
theorem sto_sizes {W : World} {b : Nat} {s t : Hs} {u v : Nat → Ls.Sl} {d : Hd_} {G : Nat → List Int} (hf : FineT s d u G) (hL : ∀ j, j < 3 → (u j).n = (G j).length) (hs : Sto W b t v d G) (hl : Lens s t) : (∀ j, j < 3 → (t.u j).n ≤ 1000000) ∧ (∀ j, j < 3 → (v j).n ≤ 1000000) :=
  ⟨fun j hj => by have := hl.2.2.1 j hj; have := hf.lu j hj; omega, fun j hj => by have := hs.l3.len j hj; have := hL j hj; have := hf.lg j hj; omega⟩
theorem how_any {s : Hs} {d : Hd_} {u : Nat → Ls.Sl} {G : Nat → List Int} {o e : Bool} {N b m : Int} (hf : FineT s d u G) (hL : ∀ j, j < 3 → (u j).n = (G j).length) (hm : mayH s d 1 (fun _ => G) = true) (hh : Hd.mayB true o e N b m = true) : How s d G N (Hd.word true o e N b m) (tkR s d G true o e N b m) := by
  have hfit := fit_first (mayH_all hm).1
  have hok : Okay s.p.n d G 0 (fun _ => G) := (okay_iff.1 (by rw [ahead_one]; exact hm)).2
  have ha : argE s d G true o e N b m = Cl.classErr N := if_pos ⟨hm, hh, rfl⟩
  unfold tkR
  rw [ha]
  by_cases he : Cl.classErr N = 0
  · rw [if_pos he]
    cases hq : takeO d s.p.n G N with
    | none => exact .inl ⟨4, by decide, rfl, fun W b' t v hs _ hz hl => take_no b' t v d G W N hs hz (hfit.of hl) he (by rw [hl.2.1]; exact hq)⟩
    | some q => exact .inr ⟨q, rfl, (takeO_some (r := 0) (R := fun _ => G) hq).cell hok, fun W b' t v hs h0 hz hl => take_yes b' t v d G W N q hs hz h0 (hfit.of hl) (sto_sizes hf hL hs hl).1 (sto_sizes hf hL hs hl).2 he (by rw [hl.2.1]; exact hq)⟩
  · rw [if_neg he]
    exact .inl ⟨Cl.classErr N, he, rfl, fun W b' _ _ _ _ hz _ => take_err b' W N _ rfl he hz⟩
theorem ptake_any (s : Hs) (u : Nat → Ls.Sl) (d : Hd_) (G : Nat → List Int) (us o e : Bool) (N b m : Int) (w : World) (hp : Hp w w.heap.size s d) (l3 : Ls.L3 w w.heap.size u G) (hz : Cl.Sz w) (hf : FineT s d u G) :
    Calls Tryz.prog 9 #[(.agg #[.slice s.w.a s.w.n s.w.c, .slice s.p.a s.p.n s.p.c, .slice (s.u 0).a (s.u 0).n (s.u 0).c, .slice (s.u 1).a (s.u 1).n (s.u 1).c, .slice (s.u 2).a (s.u 2).n (s.u 2).c, .slice s.c.a s.c.n s.c.c]), (.agg #[.slice (u 0).a (u 0).n (u 0).c, .slice (u 1).a (u 1).n (u 1).c, .slice (u 2).a (u 2).n (u 2).c]), .agg #[.bool us, .bool o, .bool e, .int .i64 N, .int .i64 b, .int .i64 m]] w (TakeOut w (tkR s d G us o e N b m)) := by
  have hno : ∀ (_ : ¬ (mayH s d 1 (fun _ => G) = true ∧ Hd.mayB us o e N b m = true ∧ us = true)), tkR s d G us o e N b m = tkNo 1 := fun h => by
    have ha : argE s d G us o e N b m = 1 := if_neg h
    unfold tkR
    rw [ha, if_neg (by decide)]
  cases hm : mayH s d 1 (fun _ => G)
  · rw [hno (by rw [hm]; exact fun h => by cases h.1)]
    exact ptake_may s u d G us o e N b m w hp l3 hz hf hm
  · cases hh : Hd.mayB us o e N b m
    · rw [hno (by rw [hh]; exact fun h => by cases h.2.1)]
      exact ptake_head s u d G us o e N b m w hp l3 hz hf hm hh
    · cases us
      · rw [hno (fun h => by cases h.2.2)]
        exact ptake_used s u d G o e N b m w hp l3 hz hf hm hh
      · exact ptake_rest s u d G o e N b m w hp l3 hz hf hm hh _ (how_any hf l3.len hm hh) (fit_first (mayH_all hm).1)
end Go.Proofs.YtmalopciboikhaaGreatDoor
end
section
namespace Go.Proofs.YtmalopciboikhaaGreatDoor
open Go.RowKit
set_option maxRecDepth 100000

def roomB (s : Hs) (d : Hd_) (G : Nat → List Int) (N : Int) : Bool := (tkR s d G true false false N 0 0).er == 0
theorem room_any (s : Hs) (u : Nat → Ls.Sl) (d : Hd_) (G : Nat → List Int) (N : Int) (w : World) (hp : Hp w w.heap.size s d) (l3 : Ls.L3 w w.heap.size u G) (hz : Cl.Sz w) (hf : FineT s d u G) :
    Calls Tryz.prog 13 #[(.agg #[.slice s.w.a s.w.n s.w.c, .slice s.p.a s.p.n s.p.c, .slice (s.u 0).a (s.u 0).n (s.u 0).c, .slice (s.u 1).a (s.u 1).n (s.u 1).c, .slice (s.u 2).a (s.u 2).n (s.u 2).c, .slice s.c.a s.c.n s.c.c]), (.agg #[.slice (u 0).a (u 0).n (u 0).c, .slice (u 1).a (u 1).n (u 1).c, .slice (u 2).a (u 2).n (u 2).c]), .int .i64 N] w fun e w' => e = .returned (.bool (roomB s d G N)) ∧ Below w.heap.size w w' := by
  have HP := Lib.hid hp
  have HL := Lib.hid l3
  have HZ := Lib.hid hz
  have hz0 := hz.pos
  have HF := Lib.hid hf
  obtain ⟨r, hr⟩ : ∃ r, r = tkR s d G true false false N 0 0 := ⟨_, rfl⟩
  have HR := Lib.hid hr
  have HB : Hid (roomB s d G N = (r.er == 0)) := Lib.hid (by rw [hr]; rfl)
  obtain ⟨bb, hbb⟩ : ∃ bb, bb = roomB s d G N := ⟨_, rfl⟩
  rw [← hbb] at HB ⊢
  clear hp l3 hz hf hr hbb
  go_enter Tryz.func13, Tryz.ntmps13
  go_wp2_with fail
  obtain ⟨W1, hW1⟩ : ∃ W1, W1 = (w.alloc (.cells #[.slice s.w.a s.w.n s.w.c, .slice s.p.a s.p.n s.p.c, .slice (s.u 0).a (s.u 0).n (s.u 0).c, .slice (s.u 1).a (s.u 1).n (s.u 1).c, .slice (s.u 2).a (s.u 2).n (s.u 2).c, .slice s.c.a s.c.n s.c.c] 28)).alloc (.cells #[.slice (u 0).a (u 0).n (u 0).c, .slice (u 1).a (u 1).n (u 1).c, .slice (u 2).a (u 2).n (u 2).c] 25) := ⟨_, rfl⟩
  have b1 : Below w.heap.size w W1 := by rw [hW1]; exact ((Below.refl _ _).alloc (Nat.le_refl _) _).alloc (by simp) _
  have B1 := Lib.hid b1
  rw [← hW1]
  clear hW1 b1
  refine (ptake_any s u d G true false false N 0 0 W1 (HP.out.next B1.out |>.more (Nat.le_refl _)) (HL.out.next B1.out) (HZ.out.over B1.out hz0) HF.out).mono ?_
  rw [← HR.out]
  rintro e9 w2 ⟨t, v, rfl, _, _, _, hb2⟩
  have B2 := Lib.hid (B1.out.trans (hb2.mono B1.out.size))
  clear hb2
  go_wp2
  go_ret
  have hs2 := B2.out.size
  exact ⟨by rw [HB.out]; rfl, (B2.out.alloc hs2 _).alloc (by simp; omega) _⟩
/-- All caches are light. -/
def lights (U : Nat → Nat → Ls.Sl) (m : Nat) : Bool := (List.range m).all fun i => lightB (U i)
def fewL (s : Hs) (U : Nat → Nat → Ls.Sl) (m : Nat) : Bool := (fewH s && lights U m) && decide (m ≤ 4)
theorem lights_succ (U : Nat → Nat → Ls.Sl) (m : Nat) : lights U (m + 1) = (lights U m && lightB (U m)) := by simp [lights, List.range_succ]
end Go.Proofs.YtmalopciboikhaaGreatDoor
end
section
namespace Go.Proofs.YtmalopciboikhaaGreatDoor
open Go.RowKit
set_option maxRecDepth 100000

theorem runs_large {N : Int} (h : Cl.runErr N = 0) : Cl.classOf N = 3 := by
  unfold Cl.runErr at h
  unfold Cl.classOf
  split at h
  · omega
  · split at h
    · omega
    · split at h
      · omega
      · rw [if_neg (by omega), if_neg (by omega), if_neg (by omega), if_neg (by omega)]
/-- What fits a used cell. -/
theorem cell_fits {d : Hd_} {n : Nat} {a : Int} (hb : ¬ Cl.bg d.f n a = 0) (hw : ¬ wd d a = 0) (hm : Cl.mayB d.f n = true) (hc : cellAt d a = true) :
    Hd.isWord (wd d a) = true ∧ Cl.classErr (nOf (wd d a)) = 0 ∧ ((pgAt d a = (1, Cl.classOf (nOf (wd d a))) ∧ ¬ Cl.classOf (nOf (wd d a)) = 3) ∨ (pgAt d a = (2, Cl.runOf (nOf (wd d a))) ∧ Cl.classOf (nOf (wd d a)) = 3)) := by
  have hu := word_used hc
  have h1 : wd d a % 2 = 1 := Classical.byContradiction fun hn => hw (hu.2 hn).2
  have hcB : cellB (wd d a) (pgAt d a) = true := hc
  have hp := bg_page hb
  have hpn : (a / 16 - 1).toNat < n := by have := hp.2.1; have := hp.2.2.1; omega
  unfold cellB at hcB
  rw [if_pos ⟨hu.1, h1⟩, Bool.and_eq_true, beq_iff_eq] at hcB
  refine ⟨hu.1, hcB.1, ?_⟩
  rcases kind_of hb with hk | hk
  · rw [if_pos hk, beq_iff_eq] at hcB
    have hs := (small_kind hm hpn hk).1
    have e : pgAt d a = (1, Cl.classOf (nOf (wd d a))) := Prod.ext hk hcB.2.symm
    refine .inl ⟨e, fun h3 => ?_⟩
    have h4 : (pgAt d a).2.toNat < 3 := hs
    rw [e, h3] at h4
    exact absurd h4 (by decide)
  · rw [if_neg (by rw [hk]; decide), Bool.and_eq_true, beq_iff_eq, beq_iff_eq] at hcB
    exact .inr ⟨Prod.ext hk hcB.2.2.symm, runs_large hcB.2.1⟩
section
variable {s t : Hs} {d : Hd_} {a : Int}
theorem head_val (hE : headE s d a = 0) : headV s d a = .agg #[.bool (decide (wd d a % 2 = 1)), .bool (decide (wd d a / 2 % 2 = 1)), .bool (decide (wd d a / 4 % 2 = 1)), .int .i64 (nOf (wd d a)), .int .i64 (wd d a / 1024 % 4194304), .int .i64 (wd d a / 4294967296)] := by
  obtain ⟨h0, h1, h2⟩ := head_is hE
  have hO := (may0_iff.1 h0).2
  unfold headV
  rw [if_pos hE, headOf_yes (cell_fits h1 h2 hO.may (hO.cell a h1 (bg_zero _ _ h1))).1]
end
end Go.Proofs.YtmalopciboikhaaGreatDoor
end
section
namespace Go.Proofs.YtmalopciboikhaaGreatDoor.Rp
open Go.Proofs.YtmalopciboikhaaGreatDoor
open Go.RowKit
set_option maxRecDepth 100000

theorem res_rfree {W : World} {b : Nat} {tm : Array Value} {v0 v1 v2 v3 v4 v5 er : Value} (ht : tm[4]? = some (.pointer (some ⟨b, 0, none⟩))) (h5 : tm[5]? = some er) (k0 : W.cell? ⟨b, 0, none⟩ = some v0) (k1 : W.cell? ⟨b, 1, none⟩ = some v1) (k2 : W.cell? ⟨b, 2, none⟩ = some v2) (k3 : W.cell? ⟨b, 3, none⟩ = some v3) (k4 : W.cell? ⟨b, 4, none⟩ = some v4) (k5 : W.cell? ⟨b, 5, none⟩ = some v5) :
    (results Tryz.f17 tm).run Tryz.prog W = .ok (.tuple #[.agg #[v0, v1, v2, v3, v4, v5], er]) W := by
  simp [results, Tryz.results17, go_sem, ht, h5, k0, k1, k2, k3, k4, k5]
section
variable (s : Hs) (d : Hd_) (a : Int) (w : World)
set_option maxHeartbeats 2000000 in
theorem rfree_no (er : Int) (her : headE s d a = er) (h0 : ¬ er = 0) (hp : Hp w w.heap.size s d) (hf : Fine s d) : Calls Tryz.prog 17 #[(.agg #[.slice s.w.a s.w.n s.w.c, .slice s.p.a s.p.n s.p.c, .slice (s.u 0).a (s.u 0).n (s.u 0).c, .slice (s.u 1).a (s.u 1).n (s.u 1).c, .slice (s.u 2).a (s.u 2).n (s.u 2).c, .slice s.c.a s.c.n s.c.c]), .int .i64 a] w (RkOut w er 0 0 0 dNone) := by
  have hV : headV s d a = noHead := by unfold headV; rw [if_neg (by rw [her]; exact h0)]
  have HP := Lib.hid hp
  have HRH := Lib.hid (fun (W : World) (h : Hp W W.heap.size s d) => rhead_any s d a W h hf)
  rw [hV, her] at HRH
  unfold noHead at HRH
  have d0 : (er != 0) = true := by simp [h0]
  clear hp hf her h0 hV
  go_enter Tryz.func17, Tryz.ntmps17
  go_wp2_with fail
  obtain ⟨W0, hW0⟩ : ∃ W0, W0 = (w.alloc (.cells #[.slice s.w.a s.w.n s.w.c, .slice s.p.a s.p.n s.p.c, .slice (s.u 0).a (s.u 0).n (s.u 0).c, .slice (s.u 1).a (s.u 1).n (s.u 1).c, .slice (s.u 2).a (s.u 2).n (s.u 2).c, .slice s.c.a s.c.n s.c.c] 28)).alloc (.cells #[.slice none 0 0, .slice none 0 0, .slice none 0 0, .slice none 0 0, .slice none 0 0, .slice none 0 0] 28) := ⟨_, rfl⟩
  have R0 := two_rooms HP.out hW0
  rw [← hW0]
  have R1 := Lib.hid R0.1
  have R2 := Lib.hid R0.2
  clear hW0 R0
  refine (HRH.out W0 R1.out.hp).mono ?_
  rintro e9 w1 ⟨rfl, hb1⟩
  have b2 : Below W0.heap.size W0 (w1.alloc (.cells #[.bool false, .bool false, .bool false, .int .i64 0, .int .i64 0, .int .i64 0] 30)) := hb1.trans (((Below.refl _ _).alloc (Nat.le_refl _) _).mono hb1.size)
  have R3 := Lib.hid (R1.out.next b2)
  have R4 := Lib.hid (R2.out.next b2)
  clear hb1 b2 R1 R2
  go_upto_region 2 with fail
  obtain ⟨W1, hW1⟩ : ∃ W, W = w1.alloc (.cells #[.bool false, .bool false, .bool false, .int .i64 0, .int .i64 0, .int .i64 0] 30) := ⟨_, rfl⟩
  rw [← hW1] at R3 R4
  rw [← hW1]
  clear hW1
  have x0 := (R4.out.box.box).c0
  have x1 := (R4.out.box.box).c1
  have x2 := (R4.out.box.box).c2
  have x3 := (R4.out.box.box).c3
  have x4 := (R4.out.box.box).c4
  have x5 := (R4.out.box.box).c5
  have xl := (R4.out.box.box).lt
  have z0 := (R4.out.box).free 0
  have z1 := (R4.out.box).free 1
  have z2 := (R4.out.box).free 2
  have z3 := (R4.out.box).free 3
  have z4 := (R4.out.box).free 4
  have z5 := (R4.out.box).free 5
  dsimp only [noHs, Ls.noSl] at x0 x1 x2 x3 x4 x5
  go_wp2
  refine bodyPost_ret (v := .tuple #[(.agg #[.slice noHs.w.a noHs.w.n noHs.w.c, .slice noHs.p.a noHs.p.n noHs.p.c, .slice (noHs.u 0).a (noHs.u 0).n (noHs.u 0).c, .slice (noHs.u 1).a (noHs.u 1).n (noHs.u 1).c, .slice (noHs.u 2).a (noHs.u 2).n (noHs.u 2).c, .slice noHs.c.a noHs.c.n noHs.c.c]), .int .i64 er]) ?_ rfl (rk_end (t := noHs) er R3.out.bel (hp_none W1) R4.out (by omega) ⟨rfl, rfl, rfl⟩)
  obtain ⟨k0, k1, k2, k3, k4, k5⟩ := put6_at R4.out.box (.slice noHs.w.a noHs.w.n noHs.w.c) (.slice noHs.p.a noHs.p.n noHs.p.c) (.slice (noHs.u 0).a (noHs.u 0).n (noHs.u 0).c) (.slice (noHs.u 1).a (noHs.u 1).n (noHs.u 1).c) (.slice (noHs.u 2).a (noHs.u 2).n (noHs.u 2).c) (.slice noHs.c.a noHs.c.n noHs.c.c)
  exact res_rfree rfl rfl k0 k1 k2 k3 k4 k5
set_option maxHeartbeats 8000000 in
theorem rfree_large (h2 : (d.f (a / 16 - 1).toNat).1 = 2) (hE : headE s d a = 0) (hp : Hp w w.heap.size s d) (hf : Fine s d) (hu : ∀ j, j < 3 → (s.u j).n ≤ 1000000) : Calls Tryz.prog 17 #[(.agg #[.slice s.w.a s.w.n s.w.c, .slice s.p.a s.p.n s.p.c, .slice (s.u 0).a (s.u 0).n (s.u 0).c, .slice (s.u 1).a (s.u 1).n (s.u 1).c, .slice (s.u 2).a (s.u 2).n (s.u 2).c, .slice s.c.a s.c.n s.c.c]), .int .i64 a] w (RkOut w 0 s.w.n s.p.n s.c.n (freedD d s.p.n a)) := by
  have HP := Lib.hid hp
  have HRH := Lib.hid (fun (W : World) (h : Hp W W.heap.size s d) => rhead_any s d a W h hf)
  rw [hE] at HRH
  obtain ⟨hm0, hbg, hwd⟩ := head_is hE
  obtain ⟨hV1, hV2, hV3, hV4, hV5, hV6, hV⟩ : ∃ b1 b2 b3 i1 i2 i3, headV s d a = .agg #[.bool b1, .bool b2, .bool b3, .int .i64 i1, .int .i64 i2, .int .i64 i3] := ⟨_, _, _, _, _, _, head_val hE⟩
  rw [hV] at HRH
  have hfit := fit_first (mayH_all hm0).1
  have h64 := hfit.p
  have hwp := hfit.wp
  have hmay : Cl.mayB d.f s.p.n = true := (may0_iff.1 hm0).2.may
  have hpg := bg_page hbg
  have hce := cell_end hbg
  obtain ⟨p, hpp⟩ : ∃ p : Nat, a / 16 - 1 = p := ⟨(a / 16 - 1).toNat, by omega⟩
  have hp2 : (a / 16 - 1).toNat = p := by omega
  have hpn : p < s.p.n := by have := hpg.2.2.1; omega
  obtain ⟨rm, hrm⟩ : ∃ rm : Nat, Cl.bg d.f s.p.n a = rm := ⟨(Cl.bg d.f s.p.n a).toNat, by omega⟩
  obtain ⟨o, ho⟩ : ∃ o : Nat, a - 16 = o := ⟨(a - 16).toNat, by omega⟩
  have HRM := Lib.hid hrm
  have HPP := Lib.hid hpp
  have hrn : o + rm ≤ s.w.n := by omega
  have hwn : s.w.n ≤ 1024 := by omega
  have hw0 : 0 < s.w.n := by omega
  have hao : a = 16 + (o : Int) := by omega
  have HOW : Hid (∀ W, Below w.heap.size w W → Calls Tryz.prog 8 #[(.agg #[.slice s.w.a s.w.n s.w.c, .slice s.p.a s.p.n s.p.c, .slice (s.u 0).a (s.u 0).n (s.u 0).c, .slice (s.u 1).a (s.u 1).n (s.u 1).c, .slice (s.u 2).a (s.u 2).n (s.u 2).c, .slice s.c.a s.c.n s.c.c])] W (OwnOut9 W s d)) := Lib.hid (fun W hb => rown9_any s d W (hp.next hb) (by omega) (by omega) (by have := hf.cn; omega) (fun j hj => Nat.le_trans (hu j hj) (by decide)))
  have HBG : Hid (∀ W, Below w.heap.size w W → Calls Tryz.prog 56 #[.slice s.p.a s.p.n s.p.c, .int .i64 a] W fun e w' => e = .returned (.int .i64 (rm : Nat)) ∧ Below W.heap.size W w') := Lib.hid (fun W hb => by
    have := Cl.rbegins_any w.heap.size s.p.a s.p.n s.p.c d.f a W (by omega) (hp.pages.below hb) hb.size
    rwa [hrm] at this)
  have HWL : Hid (d.ws.length = s.w.n) := Lib.hid hp.words.1
  have HDR : Hid (∀ W, Below w.heap.size w W → Calls Tryz.prog 67 #[.slice s.p.a s.p.n s.p.c, .int .i64 (p : Int)] W fun e w' => ∃ A c, e = .returned (.tuple #[.slice A s.p.n c, .int .i64 0]) ∧ Cl.PRow w' w'.heap.size A s.p.n (Cl.drop d.f p) ∧ s.p.n ≤ c ∧ Below W.heap.size W w') := Lib.hid (fun W hb => by
    have := Cl.rdrop_any w.heap.size s.p.a s.p.n s.p.c d.f (p : Int) W (by omega) (hp.pages.below hb) hb.size
    rw [drop_fine hmay hpn (.inr (by rw [← hp2]; exact h2))] at this
    exact this.mono fun _ _ h => tout_zero h)
  have HK2 : Hid ((d.f p).1 = 2) := Lib.hid (by rw [← hp2]; exact h2)
  have HEQ : Hid (freedD d s.p.n a = ⟨Ar.wipe d.ws o rm, Cl.drop d.f p, d.F, d.cs⟩) := Lib.hid (by
    unfold freedD
    rw [if_neg (by show ¬ (d.f (a / 16 - 1).toNat).1 = 1; rw [h2]; decide)]
    unfold dropD
    rw [hrm, hp2, show (a - 16).toNat = o by omega, Int.toNat_natCast])
  have HAO : Hid (a = 16 + (o : Int) ∧ o + rm ≤ s.w.n ∧ s.w.n ≤ 1024 ∧ a / 16 - 1 = (p : Int) ∧ 0 < s.w.n ∧ p < s.p.n) := Lib.hid ⟨hao, hrn, hwn, hpp, hw0, hpn⟩
  have HF64 : Hid (s.p.n ≤ 64 ∧ s.w.n = 16 * s.p.n) := Lib.hid ⟨h64, hwp⟩
  clear hp hf hu hE hm0 hwd hV hfit hmay hbg hpg hce hrm hpp hwp ho hao hp2 hrn hwn hw0 hpn h64 h2
  go_enter Tryz.func17, Tryz.ntmps17
  go_wp2_with fail
  obtain ⟨W0, hW0⟩ : ∃ W0, W0 = (w.alloc (.cells #[.slice s.w.a s.w.n s.w.c, .slice s.p.a s.p.n s.p.c, .slice (s.u 0).a (s.u 0).n (s.u 0).c, .slice (s.u 1).a (s.u 1).n (s.u 1).c, .slice (s.u 2).a (s.u 2).n (s.u 2).c, .slice s.c.a s.c.n s.c.c] 28)).alloc (.cells #[.slice none 0 0, .slice none 0 0, .slice none 0 0, .slice none 0 0, .slice none 0 0, .slice none 0 0] 28) := ⟨_, rfl⟩
  have R0 := two_rooms HP.out hW0
  rw [← hW0]
  have R1 := Lib.hid R0.1
  have R2 := Lib.hid R0.2
  clear hW0 R0
  refine (HRH.out W0 R1.out.hp).mono ?_
  rintro e9 w1 ⟨rfl, hb1⟩
  have b2 : Below W0.heap.size W0 (w1.alloc (.cells #[.bool hV1, .bool hV2, .bool hV3, .int .i64 hV4, .int .i64 hV5, .int .i64 hV6] 30)) := hb1.trans (((Below.refl _ _).alloc (Nat.le_refl _) _).mono hb1.size)
  have R3 := Lib.hid (R1.out.next b2)
  have R4 := Lib.hid (R2.out.next b2)
  clear hb1 b2 R1 R2
  go_upto_region 2 with fail
  obtain ⟨W1, hW1⟩ : ∃ W, W = w1.alloc (.cells #[.bool hV1, .bool hV2, .bool hV3, .int .i64 hV4, .int .i64 hV5, .int .i64 hV6] 30) := ⟨_, rfl⟩
  rw [← hW1] at R3 R4
  rw [← hW1]
  clear hW1
  go_upto_region 4 with fail
  have q0 := (R3.out.rm.box.box).c0
  have q1 := (R3.out.rm.box.box).c1
  have q2 := (R3.out.rm.box.box).c2
  have q3 := (R3.out.rm.box.box).c3
  have q4 := (R3.out.rm.box.box).c4
  have q5 := (R3.out.rm.box.box).c5
  have ql := (R3.out.rm.box.box).lt
  go_wp2_with fail
  refine (HOW.out W1 R3.out.bel).mono ?_
  intro e9 w5 hown
  obtain ⟨t, rfl, hog⟩ := og_start R3.out R4.out HP.out (by omega) hown
  clear hown
  obtain ⟨W5, hW5⟩ : ∃ W, W = w5.alloc (.cells #[.slice t.w.a t.w.n t.w.c, .slice t.p.a t.p.n t.p.c, .slice (t.u 0).a (t.u 0).n (t.u 0).c, .slice (t.u 1).a (t.u 1).n (t.u 1).c, .slice (t.u 2).a (t.u 2).n (t.u 2).c, .slice t.c.a t.c.n t.c.c] 28) := ⟨_, rfl⟩
  obtain ⟨hg0, hg1⟩ := hog W5 hW5
  obtain ⟨g, hg2⟩ := hg1 HAO.out.2.2.2.2.1
  obtain ⟨bo, hbo⟩ : ∃ b, b = w5.heap.size := ⟨_, rfl⟩
  obtain ⟨bs, hbs⟩ : ∃ b, b = W1.heap.size := ⟨_, rfl⟩
  rw [← hbo, ← hbs] at hg0
  rw [← hbs] at hg2
  have G0 := Lib.hid (And.intro hg0 hg2)
  have HLN := Lib.hid hg0.ln
  go_upto_region 5 with fail
  rw [← hW5, ← hbo]
  clear hog hW5 hg0 hg1 hg2 hbo hbs R3 R4
  clear q0 q1 q2 q3 q4 q5 ql
  have q1 := G0.out.1.hb.box.box.c1
  have ql := G0.out.1.hb.box.box.lt
  go_wp2_with fail
  refine (HBG.out W5 G0.out.1.bel).mono ?_
  rintro e9 w6 ⟨rfl, hb6⟩
  have G1 := Lib.hid (And.intro (G0.out.1.next hb6) (G0.out.2.next hb6))
  clear hb6 G0 q1 ql
  go_wp2
  go_loopw [10] (fun i wr => ∃ k : Nat, k ≤ rm ∧ i = .int .i64 k ∧ Hid (Og w wr s d (w.heap.size + 1) bs bo t ⟨Ar.wipe d.ws o k, d.f, d.F, d.cs⟩ ∧ Om wr bs g t ⟨Ar.wipe d.ws o k, d.f, d.F, d.cs⟩)) (fun i _ => rm - (intOf i).toNat)
  case atStart => exact ⟨0, Nat.zero_le _, rfl, G1⟩
  case round =>
    obtain ⟨k, hk, rfl, HK⟩ := hrel
    clear G1
    by_cases hlt : k < rm
    · have dq : decide ((k : Int) < rm) = true := by simp; omega
      have iq0 : (0 : Int) ≤ k := by omega
      obtain ⟨hao, hrn, hwn, _, _, _⟩ := HAO.out
      have hrb : rm ≤ 1024 := by omega
      have x0 := HK.out.1.o.box.box.c0
      have xl := HK.out.1.o.box.box.lt
      rw [HK.out.2.e, HLN.out.1] at x0
      obtain ⟨ok, hok⟩ : ∃ ok, ok = o + k := ⟨_, rfl⟩
      have c0 := HK.out.2.m.cell ok (by rw [HLN.out.1]; omega)
      have cf := HK.out.2.m.free ok
      have cl := HK.out.2.m.2.2.1
      have i0 : (0 : Int) ≤ (ok : Int) := by omega
      have i1 : (ok : Int) < s.w.n := by omega
      have ho2 : a + (k : Int) - 16 = (ok : Int) := by omega
      have w1' : IntKind.i64.wrap (a + (k : Int)) = a + k := by simp [IntKind.wrap, IntKind.signed, IntKind.bits]; omega
      have w2' : IntKind.i64.wrap (ok : Int) = (ok : Int) := by simp [IntKind.wrap, IntKind.signed, IntKind.bits]; omega
      have HZ := Lib.hid (HK.out.1.zero HK.out.2 (by rw [HLN.out.1]; omega) ok)
      have HOK := Lib.hid hok
      clear hok hao hrn hwn
      go_wp2
      go_roundw
      case rel =>
        refine ⟨k + 1, by omega, by go_num, Lib.hid ?_⟩
        rw [← Ar.wipe_snoc, ← HOK.out]
        exact HZ.out
      case measure => simp [intOf]; omega
    · obtain rfl : k = rm := by omega
      have dq : decide ((k : Int) < k) = false := by simp
      have G2 := Lib.hid HK.out.1
      clear hlt HK
      obtain ⟨hao, hrn, hwn, hpp, _, hpn⟩ := HAO.out
      obtain ⟨b, off, e, hb, hc⟩ := HP.out.pages (show 0 < s.p.n by omega)
      obtain ⟨c0, c1⟩ := hc p hpn
      have c0 := (G2.out.bel.cell (p := ⟨b, off + p * 2, none⟩) hb).trans c0
      have c1 := (G2.out.bel.cell (p := ⟨b, off + p * 2 + 1, none⟩) hb).trans c1
      have cl : b < wr.heap.size := Nat.lt_of_lt_of_le hb G2.out.bel.size
      have i0 : (0 : Int) ≤ (p : Int) := by omega
      have i1 : (p : Int) < s.p.n := by omega
      have h64 := HF64.out.1
      have htd : Int.tdiv a 16 = (p : Int) + 1 := by rw [Int.tdiv_eq_ediv_of_nonneg (by omega)]; omega
      have hb64 : (p : Int) ≤ 64 := by omega
      have q1 := G2.out.hb.box.box.c1
      have ql := G2.out.hb.box.box.lt
      rw [e] at q1
      clear hc hb hao hrn hwn hpp h64
      rw [HK2.out] at c0
      rw [e] at HDR
      clear e
      go_upto_region 12 with fail
      go_wp2_with fail
      refine (HDR.out wr G2.out.bel).mono ?_
      rintro e9 w7 ⟨A, c, rfl, hr7, hc7, hb7⟩
      have G3 := Lib.hid (G2.out.next hb7)
      have P3 := Lib.hid hr7
      clear hb7 hr7 hc7 G2 c0 c1 cl q1 ql
      have x0 := (G3.out.o.box.box).c0
      have x1 := (G3.out.o.box.box).c1
      have x2 := (G3.out.o.box.box).c2
      have x3 := (G3.out.o.box.box).c3
      have x4 := (G3.out.o.box.box).c4
      have x5 := (G3.out.o.box.box).c5
      have xl := (G3.out.o.box.box).lt
      have z0 := (G3.out.o.box).free 0
      have z1 := (G3.out.o.box).free 1
      have z2 := (G3.out.o.box).free 2
      have z3 := (G3.out.o.box).free 3
      have z4 := (G3.out.o.box).free 4
      have z5 := (G3.out.o.box).free 5
      go_upto_region 13 with fail
      have hlo := G3.out.lo
      have hz7 : w7.heap.size = (w7.setCell ⟨bo, 1, none⟩ (.slice A s.p.n c)).heap.size := set_size.symm
      have O4 : Rm (w7.setCell ⟨bo, 1, none⟩ (.slice A s.p.n c)) bo ⟨t.w, ⟨A, s.p.n, c⟩, t.u, t.c⟩ := G3.out.o.set 1 _ _ _ rfl rfl rfl rfl rfl rfl
      have r4 : Rm (w7.setCell ⟨bo, 1, none⟩ (.slice A s.p.n c)) (w.heap.size + 1) noHs := G3.out.r.same (set_others _ (by omega)) (Nat.le_of_eq hz7)
      have b4 : Below w.heap.size w (w7.setCell ⟨bo, 1, none⟩ (.slice A s.p.n c)) := G3.out.bel.setCell (p := ⟨bo, 1, none⟩) (by show w.heap.size ≤ bo; omega) _
      have p4 : Hp (w7.setCell ⟨bo, 1, none⟩ (.slice A s.p.n c)) (w7.setCell ⟨bo, 1, none⟩ (.slice A s.p.n c)).heap.size ⟨t.w, ⟨A, s.p.n, c⟩, t.u, t.c⟩ ⟨Ar.wipe d.ws o k, Cl.drop d.f p, d.F, d.cs⟩ := hp_turn (t := ⟨t.w, ⟨A, s.p.n, c⟩, t.u, t.c⟩) G3.out.o.sl ⟨G3.out.hp.words, P3.out, G3.out.hp.free, G3.out.hp.cards⟩ set_others hz7
      have E4 := Lib.hid (And.intro O4 (And.intro r4 (And.intro b4 p4)))
      clear O4 r4 b4 p4 hz7
      obtain ⟨W8, hW8⟩ : ∃ W, W = w7.setCell ⟨bo, 1, none⟩ (.slice A s.p.n c) := ⟨_, rfl⟩
      rw [← hW8] at E4
      rw [← hW8]
      clear hW8 G3
      clear x0 x1 x2 x3 x4 x5 xl
      clear z0 z1 z2 z3 z4 z5
      have q0 := (E4.out.1.box.box).c0
      have q1 := (E4.out.1.box.box).c1
      have q2 := (E4.out.1.box.box).c2
      have q3 := (E4.out.1.box.box).c3
      have q4 := (E4.out.1.box.box).c4
      have q5 := (E4.out.1.box.box).c5
      have ql := (E4.out.1.box.box).lt
      have x0 := (E4.out.2.1.box.box).c0
      have x1 := (E4.out.2.1.box.box).c1
      have x2 := (E4.out.2.1.box.box).c2
      have x3 := (E4.out.2.1.box.box).c3
      have x4 := (E4.out.2.1.box.box).c4
      have x5 := (E4.out.2.1.box.box).c5
      have xl := (E4.out.2.1.box.box).lt
      have z0 := (E4.out.2.1.box).free 0
      have z1 := (E4.out.2.1.box).free 1
      have z2 := (E4.out.2.1.box).free 2
      have z3 := (E4.out.2.1.box).free 3
      have z4 := (E4.out.2.1.box).free 4
      have z5 := (E4.out.2.1.box).free 5
      dsimp only [noHs, Ls.noSl] at x0 x1 x2 x3 x4 x5 q0 q1 q2 q3 q4 q5
      go_wp2
      rw [← HEQ.out] at E4
      refine bodyPost_ret (v := .tuple #[(.agg #[.slice (⟨t.w, ⟨A, s.p.n, c⟩, t.u, t.c⟩ : Hs).w.a (⟨t.w, ⟨A, s.p.n, c⟩, t.u, t.c⟩ : Hs).w.n (⟨t.w, ⟨A, s.p.n, c⟩, t.u, t.c⟩ : Hs).w.c, .slice (⟨t.w, ⟨A, s.p.n, c⟩, t.u, t.c⟩ : Hs).p.a (⟨t.w, ⟨A, s.p.n, c⟩, t.u, t.c⟩ : Hs).p.n (⟨t.w, ⟨A, s.p.n, c⟩, t.u, t.c⟩ : Hs).p.c, .slice ((⟨t.w, ⟨A, s.p.n, c⟩, t.u, t.c⟩ : Hs).u 0).a ((⟨t.w, ⟨A, s.p.n, c⟩, t.u, t.c⟩ : Hs).u 0).n ((⟨t.w, ⟨A, s.p.n, c⟩, t.u, t.c⟩ : Hs).u 0).c, .slice ((⟨t.w, ⟨A, s.p.n, c⟩, t.u, t.c⟩ : Hs).u 1).a ((⟨t.w, ⟨A, s.p.n, c⟩, t.u, t.c⟩ : Hs).u 1).n ((⟨t.w, ⟨A, s.p.n, c⟩, t.u, t.c⟩ : Hs).u 1).c, .slice ((⟨t.w, ⟨A, s.p.n, c⟩, t.u, t.c⟩ : Hs).u 2).a ((⟨t.w, ⟨A, s.p.n, c⟩, t.u, t.c⟩ : Hs).u 2).n ((⟨t.w, ⟨A, s.p.n, c⟩, t.u, t.c⟩ : Hs).u 2).c, .slice (⟨t.w, ⟨A, s.p.n, c⟩, t.u, t.c⟩ : Hs).c.a (⟨t.w, ⟨A, s.p.n, c⟩, t.u, t.c⟩ : Hs).c.n (⟨t.w, ⟨A, s.p.n, c⟩, t.u, t.c⟩ : Hs).c.c]), .int .i64 0]) ?_ rfl (rk_end (t := ⟨t.w, ⟨A, s.p.n, c⟩, t.u, t.c⟩) 0 E4.out.2.2.1 E4.out.2.2.2 E4.out.2.1 (by omega) ⟨HLN.out.1, rfl, HLN.out.2.2⟩)
      obtain ⟨k0, k1, k2, k3, k4, k5⟩ := put6_at E4.out.2.1.box (.slice t.w.a t.w.n t.w.c) (.slice A s.p.n c) (.slice (t.u 0).a (t.u 0).n (t.u 0).c) (.slice (t.u 1).a (t.u 1).n (t.u 1).c) (.slice (t.u 2).a (t.u 2).n (t.u 2).c) (.slice t.c.a t.c.n t.c.c)
      exact res_rfree rfl rfl k0 k1 k2 k3 k4 k5
set_option maxHeartbeats 8000000 in
theorem rfree_small (kk : Nat) (hkk : kk < 3) (hkd : d.f (a / 16 - 1).toNat = (1, (kk : Int))) (hE : headE s d a = 0) (hp : Hp w w.heap.size s d) (hf : Fine s d) (hu : ∀ j, j < 3 → (s.u j).n ≤ 1000000) : Calls Tryz.prog 17 #[(.agg #[.slice s.w.a s.w.n s.w.c, .slice s.p.a s.p.n s.p.c, .slice (s.u 0).a (s.u 0).n (s.u 0).c, .slice (s.u 1).a (s.u 1).n (s.u 1).c, .slice (s.u 2).a (s.u 2).n (s.u 2).c, .slice s.c.a s.c.n s.c.c]), .int .i64 a] w (RkOut w 0 s.w.n s.p.n s.c.n (freedD d s.p.n a)) := by
  have HP := Lib.hid hp
  have HRH := Lib.hid (fun (W : World) (h : Hp W W.heap.size s d) => rhead_any s d a W h hf)
  rw [hE] at HRH
  obtain ⟨hm0, hbg, hwd⟩ := head_is hE
  obtain ⟨hV1, hV2, hV3, hV4, hV5, hV6, hV⟩ : ∃ b1 b2 b3 i1 i2 i3, headV s d a = .agg #[.bool b1, .bool b2, .bool b3, .int .i64 i1, .int .i64 i2, .int .i64 i3] := ⟨_, _, _, _, _, _, head_val hE⟩
  rw [hV] at HRH
  have hfit := fit_first (mayH_all hm0).1
  have h64 := hfit.p
  have hwp := hfit.wp
  have hmay : Cl.mayB d.f s.p.n = true := (may0_iff.1 hm0).2.may
  have hpg := bg_page hbg
  have hce := cell_end hbg
  obtain ⟨p, hpp⟩ : ∃ p : Nat, a / 16 - 1 = p := ⟨(a / 16 - 1).toNat, by omega⟩
  have hp2 : (a / 16 - 1).toNat = p := by omega
  have hpn : p < s.p.n := by have := hpg.2.2.1; omega
  obtain ⟨rm, hrm⟩ : ∃ rm : Nat, Cl.bg d.f s.p.n a = rm := ⟨(Cl.bg d.f s.p.n a).toNat, by omega⟩
  obtain ⟨o, ho⟩ : ∃ o : Nat, a - 16 = o := ⟨(a - 16).toNat, by omega⟩
  have HRM := Lib.hid hrm
  have HPP := Lib.hid hpp
  have hrn : o + rm ≤ s.w.n := by omega
  have hwn : s.w.n ≤ 1024 := by omega
  have hw0 : 0 < s.w.n := by omega
  have hao : a = 16 + (o : Int) := by omega
  have HOW : Hid (∀ W, Below w.heap.size w W → Calls Tryz.prog 8 #[(.agg #[.slice s.w.a s.w.n s.w.c, .slice s.p.a s.p.n s.p.c, .slice (s.u 0).a (s.u 0).n (s.u 0).c, .slice (s.u 1).a (s.u 1).n (s.u 1).c, .slice (s.u 2).a (s.u 2).n (s.u 2).c, .slice s.c.a s.c.n s.c.c])] W (OwnOut9 W s d)) := Lib.hid (fun W hb => rown9_any s d W (hp.next hb) (by omega) (by omega) (by have := hf.cn; omega) (fun j hj => Nat.le_trans (hu j hj) (by decide)))
  have HBG : Hid (∀ W, Below w.heap.size w W → Calls Tryz.prog 56 #[.slice s.p.a s.p.n s.p.c, .int .i64 a] W fun e w' => e = .returned (.int .i64 (rm : Nat)) ∧ Below W.heap.size W w') := Lib.hid (fun W hb => by
    have := Cl.rbegins_any w.heap.size s.p.a s.p.n s.p.c d.f a W (by omega) (hp.pages.below hb) hb.size
    rwa [hrm] at this)
  have HWL : Hid (d.ws.length = s.w.n) := Lib.hid hp.words.1
  have HBK : Hid (∀ W (t' : Hs), (t'.w.n = s.w.n ∧ t'.p.n = s.p.n ∧ t'.c.n = s.c.n) → (∀ j, j < 3 → (t'.u j).n ≤ 2000000) → Hp W W.heap.size t' ⟨Ar.wipe d.ws o rm, d.f, Ls.upd d.F kk (d.F kk ++ [a]), d.cs⟩ → Calls Tryz.prog 68 #[(.agg #[.slice t'.w.a t'.w.n t'.w.c, .slice t'.p.a t'.p.n t'.p.c, .slice (t'.u 0).a (t'.u 0).n (t'.u 0).c, .slice (t'.u 1).a (t'.u 1).n (t'.u 1).c, .slice (t'.u 2).a (t'.u 2).n (t'.u 2).c, .slice t'.c.a t'.c.n t'.c.c]), .int .i64 (p : Int)] W (RoOut W t' (freedD d s.p.n a))) := Lib.hid (fun W t' hl hun h => by
    have e0 : freedD d s.p.n a = backD ⟨Ar.wipe d.ws o rm, d.f, Ls.upd d.F kk (d.F kk ++ [a]), d.cs⟩ p := by
      unfold freedD
      rw [if_pos (by show (d.f (a / 16 - 1).toNat).1 = 1; rw [hkd])]
      unfold pushD pgAt
      rw [hrm, hkd, hp2, show (a - 16).toNat = o by omega, Int.toNat_natCast]
      rfl
    rw [e0]
    exact rback_any t' _ p W h (by rw [hl.2.1]; exact hpn) ⟨by rw [hl.1]; exact hfit.w, by rw [hl.1, hl.2.1]; exact hfit.wp, by rw [hl.2.1]; exact hfit.p⟩ (by rw [hl.2.1]; exact hmay) (by rw [hl.2.2]; exact hf.cn) hun)
  have HK1 : Hid (d.f p = (1, (kk : Int))) := Lib.hid (by rw [← hp2]; exact hkd)
  have HUN : Hid (∀ j, j < 3 → (d.F j).length ≤ 1000000) := Lib.hid (fun j hj => by have := hp.free.len j hj; have := hu j hj; omega)
  have HAO : Hid (a = 16 + (o : Int) ∧ o + rm ≤ s.w.n ∧ s.w.n ≤ 1024 ∧ a / 16 - 1 = (p : Int) ∧ 0 < s.w.n ∧ p < s.p.n) := Lib.hid ⟨hao, hrn, hwn, hpp, hw0, hpn⟩
  have HF64 : Hid (s.p.n ≤ 64 ∧ s.w.n = 16 * s.p.n) := Lib.hid ⟨h64, hwp⟩
  clear hp hf hu hE hm0 hwd hV hfit hmay hbg hpg hce hrm hpp hwp ho hao hp2 hrn hwn hw0 hpn h64 hkd
  go_enter Tryz.func17, Tryz.ntmps17
  go_wp2_with fail
  obtain ⟨W0, hW0⟩ : ∃ W0, W0 = (w.alloc (.cells #[.slice s.w.a s.w.n s.w.c, .slice s.p.a s.p.n s.p.c, .slice (s.u 0).a (s.u 0).n (s.u 0).c, .slice (s.u 1).a (s.u 1).n (s.u 1).c, .slice (s.u 2).a (s.u 2).n (s.u 2).c, .slice s.c.a s.c.n s.c.c] 28)).alloc (.cells #[.slice none 0 0, .slice none 0 0, .slice none 0 0, .slice none 0 0, .slice none 0 0, .slice none 0 0] 28) := ⟨_, rfl⟩
  have R0 := two_rooms HP.out hW0
  rw [← hW0]
  have R1 := Lib.hid R0.1
  have R2 := Lib.hid R0.2
  clear hW0 R0
  refine (HRH.out W0 R1.out.hp).mono ?_
  rintro e9 w1 ⟨rfl, hb1⟩
  have b2 : Below W0.heap.size W0 (w1.alloc (.cells #[.bool hV1, .bool hV2, .bool hV3, .int .i64 hV4, .int .i64 hV5, .int .i64 hV6] 30)) := hb1.trans (((Below.refl _ _).alloc (Nat.le_refl _) _).mono hb1.size)
  have R3 := Lib.hid (R1.out.next b2)
  have R4 := Lib.hid (R2.out.next b2)
  clear hb1 b2 R1 R2
  go_upto_region 2 with fail
  obtain ⟨W1, hW1⟩ : ∃ W, W = w1.alloc (.cells #[.bool hV1, .bool hV2, .bool hV3, .int .i64 hV4, .int .i64 hV5, .int .i64 hV6] 30) := ⟨_, rfl⟩
  rw [← hW1] at R3 R4
  rw [← hW1]
  clear hW1
  go_upto_region 4 with fail
  have q0 := (R3.out.rm.box.box).c0
  have q1 := (R3.out.rm.box.box).c1
  have q2 := (R3.out.rm.box.box).c2
  have q3 := (R3.out.rm.box.box).c3
  have q4 := (R3.out.rm.box.box).c4
  have q5 := (R3.out.rm.box.box).c5
  have ql := (R3.out.rm.box.box).lt
  go_wp2_with fail
  refine (HOW.out W1 R3.out.bel).mono ?_
  intro e9 w5 hown
  obtain ⟨t, rfl, hog⟩ := og_start R3.out R4.out HP.out (by omega) hown
  clear hown
  obtain ⟨W5, hW5⟩ : ∃ W, W = w5.alloc (.cells #[.slice t.w.a t.w.n t.w.c, .slice t.p.a t.p.n t.p.c, .slice (t.u 0).a (t.u 0).n (t.u 0).c, .slice (t.u 1).a (t.u 1).n (t.u 1).c, .slice (t.u 2).a (t.u 2).n (t.u 2).c, .slice t.c.a t.c.n t.c.c] 28) := ⟨_, rfl⟩
  obtain ⟨hg0, hg1⟩ := hog W5 hW5
  obtain ⟨g, hg2⟩ := hg1 HAO.out.2.2.2.2.1
  obtain ⟨bo, hbo⟩ : ∃ b, b = w5.heap.size := ⟨_, rfl⟩
  obtain ⟨bs, hbs⟩ : ∃ b, b = W1.heap.size := ⟨_, rfl⟩
  rw [← hbo, ← hbs] at hg0
  rw [← hbs] at hg2
  have G0 := Lib.hid (And.intro hg0 hg2)
  have HLN := Lib.hid hg0.ln
  go_upto_region 5 with fail
  rw [← hW5, ← hbo]
  clear hog hW5 hg0 hg1 hg2 hbo hbs R3 R4
  clear q0 q1 q2 q3 q4 q5 ql
  have q1 := G0.out.1.hb.box.box.c1
  have ql := G0.out.1.hb.box.box.lt
  go_wp2_with fail
  refine (HBG.out W5 G0.out.1.bel).mono ?_
  rintro e9 w6 ⟨rfl, hb6⟩
  have G1 := Lib.hid (And.intro (G0.out.1.next hb6) (G0.out.2.next hb6))
  clear hb6 G0 q1 ql
  go_wp2
  go_loopw [10] (fun i wr => ∃ k : Nat, k ≤ rm ∧ i = .int .i64 k ∧ Hid (Og w wr s d (w.heap.size + 1) bs bo t ⟨Ar.wipe d.ws o k, d.f, d.F, d.cs⟩ ∧ Om wr bs g t ⟨Ar.wipe d.ws o k, d.f, d.F, d.cs⟩)) (fun i _ => rm - (intOf i).toNat)
  case atStart => exact ⟨0, Nat.zero_le _, rfl, G1⟩
  case round =>
    obtain ⟨k, hk, rfl, HK⟩ := hrel
    clear G1
    by_cases hlt : k < rm
    · have dq : decide ((k : Int) < rm) = true := by simp; omega
      have iq0 : (0 : Int) ≤ k := by omega
      obtain ⟨hao, hrn, hwn, _, _, _⟩ := HAO.out
      have hrb : rm ≤ 1024 := by omega
      have x0 := HK.out.1.o.box.box.c0
      have xl := HK.out.1.o.box.box.lt
      rw [HK.out.2.e, HLN.out.1] at x0
      obtain ⟨ok, hok⟩ : ∃ ok, ok = o + k := ⟨_, rfl⟩
      have c0 := HK.out.2.m.cell ok (by rw [HLN.out.1]; omega)
      have cf := HK.out.2.m.free ok
      have cl := HK.out.2.m.2.2.1
      have i0 : (0 : Int) ≤ (ok : Int) := by omega
      have i1 : (ok : Int) < s.w.n := by omega
      have ho2 : a + (k : Int) - 16 = (ok : Int) := by omega
      have w1' : IntKind.i64.wrap (a + (k : Int)) = a + k := by simp [IntKind.wrap, IntKind.signed, IntKind.bits]; omega
      have w2' : IntKind.i64.wrap (ok : Int) = (ok : Int) := by simp [IntKind.wrap, IntKind.signed, IntKind.bits]; omega
      have HZ := Lib.hid (HK.out.1.zero HK.out.2 (by rw [HLN.out.1]; omega) ok)
      have HOK := Lib.hid hok
      clear hok hao hrn hwn
      go_wp2
      go_roundw
      case rel =>
        refine ⟨k + 1, by omega, by go_num, Lib.hid ?_⟩
        rw [← Ar.wipe_snoc, ← HOK.out]
        exact HZ.out
      case measure => simp [intOf]; omega
    · obtain rfl : k = rm := by omega
      have dq : decide ((k : Int) < k) = false := by simp
      have G2 := Lib.hid HK.out.1
      clear hlt HK
      obtain ⟨hao, hrn, hwn, hpp, _, hpn⟩ := HAO.out
      obtain ⟨b, off, e, hb, hc⟩ := HP.out.pages (show 0 < s.p.n by omega)
      obtain ⟨c0, c1⟩ := hc p hpn
      have c0 := (G2.out.bel.cell (p := ⟨b, off + p * 2, none⟩) hb).trans c0
      have c1 := (G2.out.bel.cell (p := ⟨b, off + p * 2 + 1, none⟩) hb).trans c1
      have cl : b < wr.heap.size := Nat.lt_of_lt_of_le hb G2.out.bel.size
      have i0 : (0 : Int) ≤ (p : Int) := by omega
      have i1 : (p : Int) < s.p.n := by omega
      have h64 := HF64.out.1
      have htd : Int.tdiv a 16 = (p : Int) + 1 := by rw [Int.tdiv_eq_ediv_of_nonneg (by omega)]; omega
      have hb64 : (p : Int) ≤ 64 := by omega
      have q1 := G2.out.hb.box.box.c1
      have ql := G2.out.hb.box.box.lt
      rw [e] at q1
      clear hc hb hao hrn hwn hpp h64
      rw [HK1.out] at c0 c1
      have jk0 : (0 : Int) ≤ kk := by omega
      have jk1 : (kk : Int) < 3 := by omega
      have hln : (t.u kk).n ≤ 1000000 := by have h1 := G2.out.o3.l3.len kk hkk; have h2 := HUN.out kk hkk; simp only at h1; omega
      have y2 := list_box G2.out.o hkk
      have yl := G2.out.o.box.box.lt
      have GA := Lib.hid (G2.out.next ((Below.refl wr.heap.size wr).alloc (Nat.le_refl _) (.cells #[.int .i64 a] 3)))
      have hra := Ls.row_lit1 wr a
      have hsA : bs ≤ (wr.alloc (.cells #[.int .i64 a] 3)).heap.size := by have := G2.out.lo; have := G2.out.o.box.box.lt; simp; omega
      go_wp2_with (at_builtin; refine Ls.list_cat rfl (.tmp 70) (.tmp 72) rfl rfl rfl (base := bs) (GA.out.o3.own kk hkk) hra hsA (by omega) ?_)
      intro p9 c9 w8 hcat
      obtain ⟨o8, _, _, g8⟩ := GA.out.cat hkk hcat
      have O8 := Lib.hid o8
      have G8 := Lib.hid g8
      clear hcat o8 g8 hra hsA y2 yl c0 c1 cl q1 ql GA G2
      have y2 := list_box O8.out hkk
      have yf := O8.out.box.free (2 + kk)
      have yl := O8.out.box.box.lt
      go_upto_region 16 with fail
      obtain ⟨W9, hW9⟩ : ∃ W, W = w8.setCell ⟨bo, 2 + kk, none⟩ (.slice p9 ((t.u kk).n + 1) c9) := ⟨_, rfl⟩
      rw [← hW9] at G8
      rw [← hW9]
      clear hW9 O8 y2 yf yl
      have q0 := (G8.out.o.box.box).c0
      have q1 := (G8.out.o.box.box).c1
      have q2 := (G8.out.o.box.box).c2
      have q3 := (G8.out.o.box.box).c3
      have q4 := (G8.out.o.box.box).c4
      have q5 := (G8.out.o.box.box).c5
      have ql := (G8.out.o.box.box).lt
      dsimp only at q0 q1 q2 q3 q4 q5
      go_wp2_with fail
      refine (HBK.out W9 ⟨t.w, t.p, Ls.upd t.u kk ⟨p9, (t.u kk).n + 1, c9⟩, t.c⟩ HLN.out (fun j hj => ?_) G8.out.hp).mono ?_
      · have h1 := G8.out.o3.l3.len j hj
        have h2 := HUN.out j hj
        have h3 := HUN.out kk hkk
        simp only at h1 ⊢
        rw [h1]
        unfold Ls.upd
        split
        · rw [List.length_append]; simp; omega
        · omega
      rintro e9 wz ⟨t9, rfl, hp9, hl9, hb9⟩
      have E9 := Lib.hid (And.intro hp9 (And.intro hl9 (G8.out.next hb9)))
      clear hp9 hl9 hb9 G8
      clear q0 q1 q2 q3 q4 q5 ql
      have x0 := (E9.out.2.2.r.box.box).c0
      have x1 := (E9.out.2.2.r.box.box).c1
      have x2 := (E9.out.2.2.r.box.box).c2
      have x3 := (E9.out.2.2.r.box.box).c3
      have x4 := (E9.out.2.2.r.box.box).c4
      have x5 := (E9.out.2.2.r.box.box).c5
      have xl := (E9.out.2.2.r.box.box).lt
      have z0 := (E9.out.2.2.r.box).free 0
      have z1 := (E9.out.2.2.r.box).free 1
      have z2 := (E9.out.2.2.r.box).free 2
      have z3 := (E9.out.2.2.r.box).free 3
      have z4 := (E9.out.2.2.r.box).free 4
      have z5 := (E9.out.2.2.r.box).free 5
      dsimp only [noHs, Ls.noSl] at x0 x1 x2 x3 x4 x5
      go_wp2
      have ln9 := E9.out.2.1
      refine bodyPost_ret (v := .tuple #[(.agg #[.slice t9.w.a t9.w.n t9.w.c, .slice t9.p.a t9.p.n t9.p.c, .slice (t9.u 0).a (t9.u 0).n (t9.u 0).c, .slice (t9.u 1).a (t9.u 1).n (t9.u 1).c, .slice (t9.u 2).a (t9.u 2).n (t9.u 2).c, .slice t9.c.a t9.c.n t9.c.c]), .int .i64 0]) ?_ rfl (rk_end (t := t9) 0 E9.out.2.2.bel E9.out.1 E9.out.2.2.r (by omega) ⟨ln9.1.trans HLN.out.1, ln9.2.1.trans HLN.out.2.1, ln9.2.2.trans HLN.out.2.2⟩)
      obtain ⟨k0, k1, k2, k3, k4, k5⟩ := put6_at E9.out.2.2.r.box (.slice t9.w.a t9.w.n t9.w.c) (.slice t9.p.a t9.p.n t9.p.c) (.slice (t9.u 0).a (t9.u 0).n (t9.u 0).c) (.slice (t9.u 1).a (t9.u 1).n (t9.u 1).c) (.slice (t9.u 2).a (t9.u 2).n (t9.u 2).c) (.slice t9.c.a t9.c.n t9.c.c)
      exact res_rfree rfl rfl k0 k1 k2 k3 k4 k5
theorem rfree_any (hp : Hp w w.heap.size s d) (hf : Fine s d) (hu : ∀ j, j < 3 → (s.u j).n ≤ 1000000) : Calls Tryz.prog 17 #[(.agg #[.slice s.w.a s.w.n s.w.c, .slice s.p.a s.p.n s.p.c, .slice (s.u 0).a (s.u 0).n (s.u 0).c, .slice (s.u 1).a (s.u 1).n (s.u 1).c, .slice (s.u 2).a (s.u 2).n (s.u 2).c, .slice s.c.a s.c.n s.c.c]), .int .i64 a] w (RkO w (rkFree s d a)) := by
  unfold rkFree
  by_cases hE : headE s d a = 0
  · rw [if_pos hE]
    obtain ⟨h0, hb, hw⟩ := head_is hE
    have hpg := bg_page hb
    have hpn : (a / 16 - 1).toNat < s.p.n := by have := hpg.2.1; have := hpg.2.2.1; omega
    rcases kind_of (d := d) hb with h1 | h2
    · obtain ⟨hk3, e⟩ := small_kind hpg.1 hpn h1
      exact rfree_small s d a w _ hk3 e hE hp hf hu
    · exact rfree_large s d a w h2 hE hp hf hu
  · rw [if_neg hE]
    exact rfree_no s d a w _ rfl hE hp hf
end
end Go.Proofs.YtmalopciboikhaaGreatDoor.Rp
end
section
namespace Go.Proofs.YtmalopciboikhaaGreatDoor.Rp
open Go.Proofs.YtmalopciboikhaaGreatDoor
open Go.RowKit
set_option maxRecDepth 100000

theorem res_rflush {W : World} {b : Nat} {tm : Array Value} {v0 v1 v2 v3 v4 v5 er : Value} (ht : tm[4]? = some (.pointer (some ⟨b, 0, none⟩))) (h5 : tm[5]? = some er) (k0 : W.cell? ⟨b, 0, none⟩ = some v0) (k1 : W.cell? ⟨b, 1, none⟩ = some v1) (k2 : W.cell? ⟨b, 2, none⟩ = some v2) (k3 : W.cell? ⟨b, 3, none⟩ = some v3) (k4 : W.cell? ⟨b, 4, none⟩ = some v4) (k5 : W.cell? ⟨b, 5, none⟩ = some v5) :
    (results Tryz.f19 tm).run Tryz.prog W = .ok (.tuple #[.agg #[v0, v1, v2, v3, v4, v5], er]) W := by
  simp [results, Tryz.results19, go_sem, ht, h5, k0, k1, k2, k3, k4, k5]
/-- What a walk through the reference's Flush has in memory. -/
structure Lb (w W : World) (s : Hs) (d : Hd_) (u : Nat → Ls.Sl) : Prop where
  ro : Ro w W w.heap.size s d
  cb : Ls.Box3 W (w.heap.size + 1) u
  rm : Rm W (w.heap.size + 2) noHs
section
variable {w W W' : World} {s t : Hs} {d D : Hd_} {u : Nat → Ls.Sl} {G : Nat → List Int} {bs bo k rb : Nat}
theorem Lb.next (h : Lb w W s d u) (hb : Below W.heap.size W W') : Lb w W' s d u := ⟨h.ro.next hb, h.cb.next hb, h.rm.next hb⟩
theorem lb_start (hp : Hp w w.heap.size s d) (h : W = ((w.alloc (.cells #[.slice s.w.a s.w.n s.w.c, .slice s.p.a s.p.n s.p.c, .slice (s.u 0).a (s.u 0).n (s.u 0).c, .slice (s.u 1).a (s.u 1).n (s.u 1).c, .slice (s.u 2).a (s.u 2).n (s.u 2).c, .slice s.c.a s.c.n s.c.c] 28)).alloc (.cells #[.slice (u 0).a (u 0).n (u 0).c, .slice (u 1).a (u 1).n (u 1).c, .slice (u 2).a (u 2).n (u 2).c] 25)).alloc (.cells #[.slice none 0 0, .slice none 0 0, .slice none 0 0, .slice none 0 0, .slice none 0 0, .slice none 0 0] 28)) : Lb w W s d u := by
  obtain ⟨W1, h1⟩ : ∃ W1, W1 = w.alloc (.cells #[.slice s.w.a s.w.n s.w.c, .slice s.p.a s.p.n s.p.c, .slice (s.u 0).a (s.u 0).n (s.u 0).c, .slice (s.u 1).a (s.u 1).n (s.u 1).c, .slice (s.u 2).a (s.u 2).n (s.u 2).c, .slice s.c.a s.c.n s.c.c] 28) := ⟨_, rfl⟩
  obtain ⟨W2, h2⟩ : ∃ W2, W2 = W1.alloc (.cells #[.slice (u 0).a (u 0).n (u 0).c, .slice (u 1).a (u 1).n (u 1).c, .slice (u 2).a (u 2).n (u 2).c] 25) := ⟨_, rfl⟩
  rw [← h1, ← h2] at h
  have z1 : W1.heap.size = w.heap.size + 1 := by rw [h1]; simp
  have z2 : W2.heap.size = w.heap.size + 2 := by rw [h2]; simp [z1]
  have b2 : Below W1.heap.size W1 W2 := by rw [h2]; exact (Below.refl _ _).alloc (Nat.le_refl _) _
  have b3 : Below W2.heap.size W2 W := by rw [h]; exact (Below.refl _ _).alloc (Nat.le_refl _) _
  have x1 : Ro w W1 w.heap.size s d := by rw [h1]; exact ro_start hp
  have x2 : Ls.Box3 W2 (w.heap.size + 1) u := by rw [h2, ← z1]; exact Ls.Box3.new W1 u _
  have x3 : Rm W (w.heap.size + 2) noHs := by rw [h, ← z2]; exact Rm.new W2 noHs _
  exact ⟨(x1.next b2).next b3, x2.next b3, x3⟩
/-- A list of the cache is appended, and stored. -/
theorem og_join (h : Og w W s d rb bs bo t (joinTo d G k)) (hc : Ls.Box3 W (w.heap.size + 1) u) (hlo : w.heap.size + 1 < rb) (hk : k < 3) {sl : Ls.Sl} {w2 : World} (hcat : Ls.Catted W bs (.slice (t.u k).a (t.u k).n (t.u k).c) sl ((joinTo d G k).F k ++ G k) w2) :
    Rm w2 bo t ∧ Og w (w2.setCell ⟨bo, 2 + k, none⟩ (.slice sl.a sl.n sl.c)) s d rb bs bo ⟨t.w, t.p, Ls.upd t.u k sl, t.c⟩ (joinTo d G (k + 1)) ∧ Ls.Box3 (w2.setCell ⟨bo, 2 + k, none⟩ (.slice sl.a sl.n sl.c)) (w.heap.size + 1) u := by
  obtain ⟨h1, h2, h3, h4⟩ := h.cat hk hcat
  have hl := h.lo
  rw [join_succ] at h4
  exact ⟨h1, h4, hc.same (h2 _ (by omega)).1 (Nat.le_trans h3 (by simp))⟩
/-- What stands at the head of the loop of pages. -/
structure Fb (w W : World) (s : Hs) (bo : Nat) (t : Hs) (D : Hd_) : Prop where
  bel : Below w.heap.size w W
  hb : Rm W w.heap.size s
  r : Rm W (w.heap.size + 2) noHs
  o : Rm W bo t
  hp : Hp W W.heap.size t D
  lo : w.heap.size + 2 < bo
  ln : t.w.n = s.w.n ∧ t.p.n = s.p.n ∧ t.c.n = s.c.n
theorem Fb.next (h : Fb w W s bo t D) (hb : Below W.heap.size W W') : Fb w W' s bo t D := ⟨h.bel.trans (hb.mono h.bel.size), h.hb.next hb, h.r.next hb, h.o.next hb, h.hp.next hb, h.lo, h.ln⟩
theorem Fb.put {t' : Hs} {D' : Hd_} (h : Fb w W s bo t D) (hp : Hp W W.heap.size t' D') (ln : t'.w.n = s.w.n ∧ t'.p.n = s.p.n ∧ t'.c.n = s.c.n) : Fb w ((((((W.setCell ⟨bo, 0, none⟩ (.slice t'.w.a t'.w.n t'.w.c)).setCell ⟨bo, 1, none⟩ (.slice t'.p.a t'.p.n t'.p.c)).setCell ⟨bo, 2, none⟩ (.slice (t'.u 0).a (t'.u 0).n (t'.u 0).c)).setCell ⟨bo, 3, none⟩ (.slice (t'.u 1).a (t'.u 1).n (t'.u 1).c)).setCell ⟨bo, 4, none⟩ (.slice (t'.u 2).a (t'.u 2).n (t'.u 2).c)).setCell ⟨bo, 5, none⟩ (.slice t'.c.a t'.c.n t'.c.c)) s bo t' D' := by
  have hlo := h.lo
  have hz := (put6_size W bo (.slice t'.w.a t'.w.n t'.w.c) (.slice t'.p.a t'.p.n t'.p.c) (.slice (t'.u 0).a (t'.u 0).n (t'.u 0).c) (.slice (t'.u 1).a (t'.u 1).n (t'.u 1).c) (.slice (t'.u 2).a (t'.u 2).n (t'.u 2).c) (.slice t'.c.a t'.c.n t'.c.c)).symm
  exact ⟨below_put6 h.bel (by omega) _ _ _ _ _ _, h.hb.same (put6_other _ _ _ _ _ _ _ _ (by omega)) (Nat.le_of_eq hz), h.r.same (put6_other _ _ _ _ _ _ _ _ (by omega)) (Nat.le_of_eq hz), h.o.put t', hp_turn h.o.sl hp (fun _ hi => put6_other _ _ _ _ _ _ _ _ hi) hz, hlo, ln⟩
theorem Og.fb (h : Og w W s d (w.heap.size + 2) bs bo t D) : Fb w W s bo t D := ⟨h.bel, h.hb, h.r, h.o, h.hp, by have := h.lo; omega, h.ln⟩
end
section
variable (s : Hs) (u : Nat → Ls.Sl) (d : Hd_) (G : Nat → List Int) (w : World)
theorem rflush_may (hf : FineT s d u G) (l3 : Ls.L3 w w.heap.size u G) : ∀ W, Lb w W s d u → Calls Tryz.prog 46 #[(.agg #[.slice s.w.a s.w.n s.w.c, .slice s.p.a s.p.n s.p.c, .slice (s.u 0).a (s.u 0).n (s.u 0).c, .slice (s.u 1).a (s.u 1).n (s.u 1).c, .slice (s.u 2).a (s.u 2).n (s.u 2).c, .slice s.c.a s.c.n s.c.c]), .slice (some ⟨W.heap.size, 0, none⟩) 1 1] (W.alloc (.cells #[.slice (u 0).a (u 0).n (u 0).c, .slice (u 1).a (u 1).n (u 1).c, .slice (u 2).a (u 2).n (u 2).c] 25)) fun e w' => e = .returned (.bool (mayH s d 1 (fun _ => G))) ∧ Below (W.alloc (.cells #[.slice (u 0).a (u 0).n (u 0).c, .slice (u 1).a (u 1).n (u 1).c, .slice (u 2).a (u 2).n (u 2).c] 25)).heap.size (W.alloc (.cells #[.slice (u 0).a (u 0).n (u 0).c, .slice (u 1).a (u 1).n (u 1).c, .slice (u 2).a (u 2).n (u 2).c] 25)) w' := fun W h => by
  have hb := (Below.refl W.heap.size W).alloc (Nat.le_refl _) (.cells #[.slice (u 0).a (u 0).n (u 0).c, .slice (u 1).a (u 1).n (u 1).c, .slice (u 2).a (u 2).n (u 2).c] 25)
  have h2 := h.next hb
  refine rmayH_any s d (some ⟨W.heap.size, 0, none⟩) 1 1 (fun _ => u) (fun _ => G) (W.alloc (.cells #[.slice (u 0).a (u 0).n (u 0).c, .slice (u 1).a (u 1).n (u 1).c, .slice (u 2).a (u 2).n (u 2).c] 25)) h2.ro.hp (lrow_of (own_one W u) (by simp) (fun _ _ => (l3.next h.ro.bel).next hb)) (by decide) hf.fine.wn ?_ hf.fine.hv hf.all
  have := hf.fine.pn
  omega
set_option maxHeartbeats 1000000 in
theorem rflush_no (hp : Hp w w.heap.size s d) (l3 : Ls.L3 w w.heap.size u G) (hf : FineT s d u G) (hm : mayH s d 1 (fun _ => G) = false) : Calls Tryz.prog 19 #[(.agg #[.slice s.w.a s.w.n s.w.c, .slice s.p.a s.p.n s.p.c, .slice (s.u 0).a (s.u 0).n (s.u 0).c, .slice (s.u 1).a (s.u 1).n (s.u 1).c, .slice (s.u 2).a (s.u 2).n (s.u 2).c, .slice s.c.a s.c.n s.c.c]), (.agg #[.slice (u 0).a (u 0).n (u 0).c, .slice (u 1).a (u 1).n (u 1).c, .slice (u 2).a (u 2).n (u 2).c])] w (RkOut w 1 0 0 0 dNone) := by
  have HP := Lib.hid hp
  have HM := Lib.hid (rflush_may s u d G w hf l3)
  rw [hm] at HM
  clear hp l3 hf hm
  go_enter Tryz.func19, Tryz.ntmps19
  go_wp2_with fail
  obtain ⟨W3, hW3⟩ : ∃ W3, W3 = ((w.alloc (.cells #[.slice s.w.a s.w.n s.w.c, .slice s.p.a s.p.n s.p.c, .slice (s.u 0).a (s.u 0).n (s.u 0).c, .slice (s.u 1).a (s.u 1).n (s.u 1).c, .slice (s.u 2).a (s.u 2).n (s.u 2).c, .slice s.c.a s.c.n s.c.c] 28)).alloc (.cells #[.slice (u 0).a (u 0).n (u 0).c, .slice (u 1).a (u 1).n (u 1).c, .slice (u 2).a (u 2).n (u 2).c] 25)).alloc (.cells #[.slice none 0 0, .slice none 0 0, .slice none 0 0, .slice none 0 0, .slice none 0 0, .slice none 0 0] 28) := ⟨_, rfl⟩
  have T3 := Lib.hid (lb_start HP.out hW3)
  have hz3 : w.heap.size + 1 + 1 + 1 = W3.heap.size := by rw [hW3]; simp
  rw [← hW3, hz3]
  clear hW3 hz3
  refine (HM.out W3 T3.out).mono ?_
  rintro e9 w6 ⟨rfl, hb6⟩
  have T6 := Lib.hid ((T3.out.next ((Below.refl _ _).alloc (Nat.le_refl _) (.cells #[.slice (u 0).a (u 0).n (u 0).c, .slice (u 1).a (u 1).n (u 1).c, .slice (u 2).a (u 2).n (u 2).c] 25))).next hb6)
  clear hb6 T3
  have x0 := (T6.out.rm.box.box).c0
  have x1 := (T6.out.rm.box.box).c1
  have x2 := (T6.out.rm.box.box).c2
  have x3 := (T6.out.rm.box.box).c3
  have x4 := (T6.out.rm.box.box).c4
  have x5 := (T6.out.rm.box.box).c5
  have xl := (T6.out.rm.box.box).lt
  have z0 := (T6.out.rm.box).free 0
  have z1 := (T6.out.rm.box).free 1
  have z2 := (T6.out.rm.box).free 2
  have z3 := (T6.out.rm.box).free 3
  have z4 := (T6.out.rm.box).free 4
  have z5 := (T6.out.rm.box).free 5
  dsimp only [noHs, Ls.noSl] at x0 x1 x2 x3 x4 x5
  go_wp2
  refine bodyPost_ret (v := .tuple #[(.agg #[.slice noHs.w.a noHs.w.n noHs.w.c, .slice noHs.p.a noHs.p.n noHs.p.c, .slice (noHs.u 0).a (noHs.u 0).n (noHs.u 0).c, .slice (noHs.u 1).a (noHs.u 1).n (noHs.u 1).c, .slice (noHs.u 2).a (noHs.u 2).n (noHs.u 2).c, .slice noHs.c.a noHs.c.n noHs.c.c]), .int .i64 1]) ?_ rfl (rk_end (t := noHs) 1 T6.out.ro.bel (hp_none w6) T6.out.rm (by omega) ⟨rfl, rfl, rfl⟩)
  obtain ⟨k0, k1, k2, k3, k4, k5⟩ := put6_at T6.out.rm.box (.slice noHs.w.a noHs.w.n noHs.w.c) (.slice noHs.p.a noHs.p.n noHs.p.c) (.slice (noHs.u 0).a (noHs.u 0).n (noHs.u 0).c) (.slice (noHs.u 1).a (noHs.u 1).n (noHs.u 1).c) (.slice (noHs.u 2).a (noHs.u 2).n (noHs.u 2).c) (.slice noHs.c.a noHs.c.n noHs.c.c)
  exact res_rflush rfl rfl k0 k1 k2 k3 k4 k5
set_option maxHeartbeats 4000000 in
theorem rflush_ok (hp : Hp w w.heap.size s d) (l3 : Ls.L3 w w.heap.size u G) (hf : FineT s d u G) (hm : mayH s d 1 (fun _ => G) = true) : Calls Tryz.prog 19 #[(.agg #[.slice s.w.a s.w.n s.w.c, .slice s.p.a s.p.n s.p.c, .slice (s.u 0).a (s.u 0).n (s.u 0).c, .slice (s.u 1).a (s.u 1).n (s.u 1).c, .slice (s.u 2).a (s.u 2).n (s.u 2).c, .slice s.c.a s.c.n s.c.c]), (.agg #[.slice (u 0).a (u 0).n (u 0).c, .slice (u 1).a (u 1).n (u 1).c, .slice (u 2).a (u 2).n (u 2).c])] w (RkOut w 0 s.w.n s.p.n s.c.n (flushD d s.p.n G)) := by
  have hfb := (mayH_all hm).1
  have hmb : Cl.mayB d.f s.p.n = true := by
    unfold firstB at hfb
    simp only [Bool.and_eq_true] at hfb
    exact hfb.2.1
  have hfit := fit_first hfb
  have HP := Lib.hid hp
  have HL := Lib.hid l3
  have HM := Lib.hid (rflush_may s u d G w hf l3)
  rw [hm] at HM
  have HOW : Hid (∀ W, Below w.heap.size w W → Calls Tryz.prog 8 #[(.agg #[.slice s.w.a s.w.n s.w.c, .slice s.p.a s.p.n s.p.c, .slice (s.u 0).a (s.u 0).n (s.u 0).c, .slice (s.u 1).a (s.u 1).n (s.u 1).c, .slice (s.u 2).a (s.u 2).n (s.u 2).c, .slice s.c.a s.c.n s.c.c])] W (OwnOut9 W s d)) := Lib.hid (fun W hb => rown9_any s d W (hp.next hb) hf.fine.wn (by have := hf.fine.pn; omega) (by have := hf.fine.cn; omega) (fun j hj => Nat.le_trans (hf.lu j hj) (by decide)))
  have HLen : Hid (∀ j, j < 3 → (d.F j).length ≤ 1000000 ∧ (G j).length ≤ 1000000 ∧ (u j).n ≤ 1000000) := Lib.hid (fun j hj => ⟨by have := hp.free.len j hj; have := hf.lu j hj; omega, by have := l3.len j hj; have := hf.lg j hj; omega, hf.lg j hj⟩)
  have HBK : Hid (∀ W bo t k, k < s.p.n → Fb w W s bo t (flushTo (joinD d G) k) → Calls Tryz.prog 68 #[(.agg #[.slice t.w.a t.w.n t.w.c, .slice t.p.a t.p.n t.p.c, .slice (t.u 0).a (t.u 0).n (t.u 0).c, .slice (t.u 1).a (t.u 1).n (t.u 1).c, .slice (t.u 2).a (t.u 2).n (t.u 2).c, .slice t.c.a t.c.n t.c.c]), .int .i64 (k : Int)] W (RoOut W t (flushTo (joinD d G) (k + 1)))) := Lib.hid (fun W bo t k hk h =>
    rback_any t (flushTo (joinD d G) k) k W h.hp (by rw [h.ln.2.1]; exact hk) ⟨by rw [h.ln.1]; exact hfit.w, by rw [h.ln.1, h.ln.2.1]; exact hfit.wp, by rw [h.ln.2.1]; exact hfit.p⟩ (by rw [h.ln.2.1]; exact flush_mayB (d := joinD d G) hmb k (by omega)) (by rw [h.ln.2.2]; have := hf.fine.cn; omega) (fun j hj => by
      have h1 := h.hp.free.len j hj
      have h2 := flush_len (joinD d G) k j
      have h3 := join_len d G 3 j
      have h4 := HLen.out j hj
      have h5 : ((joinD d G).F j).length ≤ (d.F j).length + (G j).length := h3
      omega))
  have H64 : Hid (s.p.n ≤ 64) := Lib.hid hfit.p
  clear hp l3 hf hm hfb hmb hfit
  go_enter Tryz.func19, Tryz.ntmps19
  go_wp2_with fail
  obtain ⟨W3, hW3⟩ : ∃ W3, W3 = ((w.alloc (.cells #[.slice s.w.a s.w.n s.w.c, .slice s.p.a s.p.n s.p.c, .slice (s.u 0).a (s.u 0).n (s.u 0).c, .slice (s.u 1).a (s.u 1).n (s.u 1).c, .slice (s.u 2).a (s.u 2).n (s.u 2).c, .slice s.c.a s.c.n s.c.c] 28)).alloc (.cells #[.slice (u 0).a (u 0).n (u 0).c, .slice (u 1).a (u 1).n (u 1).c, .slice (u 2).a (u 2).n (u 2).c] 25)).alloc (.cells #[.slice none 0 0, .slice none 0 0, .slice none 0 0, .slice none 0 0, .slice none 0 0, .slice none 0 0] 28) := ⟨_, rfl⟩
  have T3 := Lib.hid (lb_start HP.out hW3)
  have hz3 : w.heap.size + 1 + 1 + 1 = W3.heap.size := by rw [hW3]; simp
  rw [← hW3, hz3]
  clear hW3 hz3
  refine (HM.out W3 T3.out).mono ?_
  rintro e9 w6 ⟨rfl, hb6⟩
  have T6 := Lib.hid ((T3.out.next ((Below.refl _ _).alloc (Nat.le_refl _) (.cells #[.slice (u 0).a (u 0).n (u 0).c, .slice (u 1).a (u 1).n (u 1).c, .slice (u 2).a (u 2).n (u 2).c] 25))).next hb6)
  clear hb6 T3
  have q0 := (T6.out.ro.rm.box.box).c0
  have q1 := (T6.out.ro.rm.box.box).c1
  have q2 := (T6.out.ro.rm.box.box).c2
  have q3 := (T6.out.ro.rm.box.box).c3
  have q4 := (T6.out.ro.rm.box.box).c4
  have q5 := (T6.out.ro.rm.box.box).c5
  have ql := (T6.out.ro.rm.box.box).lt
  go_wp2_with fail
  refine (HOW.out w6 T6.out.ro.bel).mono ?_
  intro e9 w7 hown
  have hb7 : Below w6.heap.size w6 w7 := by obtain ⟨_, _, _, _, _, _, _, _, h⟩ := hown; exact h
  obtain ⟨t0, rfl, hog⟩ := og_start T6.out.ro T6.out.rm HP.out (by omega) hown
  clear hown
  obtain ⟨W8, hW8⟩ : ∃ W, W = w7.alloc (.cells #[.slice t0.w.a t0.w.n t0.w.c, .slice t0.p.a t0.p.n t0.p.c, .slice (t0.u 0).a (t0.u 0).n (t0.u 0).c, .slice (t0.u 1).a (t0.u 1).n (t0.u 1).c, .slice (t0.u 2).a (t0.u 2).n (t0.u 2).c, .slice t0.c.a t0.c.n t0.c.c] 28) := ⟨_, rfl⟩
  have b8 : Below w7.heap.size w7 W8 := by rw [hW8]; exact (Below.refl _ _).alloc (Nat.le_refl _) _
  have hg0 := (hog W8 hW8).1
  have cb8 := (T6.out.cb.next hb7).next b8
  obtain ⟨bo, hbo⟩ : ∃ b, b = w7.heap.size := ⟨_, rfl⟩
  obtain ⟨bs, hbs⟩ : ∃ b, b = w6.heap.size := ⟨_, rfl⟩
  rw [← hbo, ← hbs] at hg0
  have G0 : Hid (Og w W8 s d (w.heap.size + 2) bs bo t0 (joinTo d G 0) ∧ Ls.Box3 W8 (w.heap.size + 1) u) := Lib.hid (And.intro (by rw [join_zero]; exact hg0) cb8)
  clear q0 q1 q2 q3 q4 q5 ql
  go_upto_region 5 with fail
  rw [← hW8, ← hbo]
  clear hog hW8 hg0 hbo hbs cb8 b8 hb7 T6
  go_wp2
  go_loopw [8] (fun i wr => ∃ (k : Nat) (t : Hs), k ≤ 3 ∧ i = .int .i64 k ∧ Hid (Og w wr s d (w.heap.size + 2) bs bo t (joinTo d G k) ∧ Ls.Box3 wr (w.heap.size + 1) u)) (fun i _ => 3 - (intOf i).toNat)
  case atStart => exact ⟨0, t0, by omega, rfl, G0⟩
  case round =>
    obtain ⟨k, t, hk, rfl, HA⟩ := hrel
    clear G0
    by_cases hlt : k < 3
    · have dq : decide ((k : Int) < 3) = true := by simp; omega
      have iq0 : (0 : Int) ≤ k := by omega
      have iq1 : (k : Int) < 3 := by omega
      have HD : Hid (Og w (World.drew wr) s d (w.heap.size + 2) bs bo t (joinTo d G k) ∧ Ls.Box3 (World.drew wr) (w.heap.size + 1) u) := Lib.hid ⟨HA.out.1.next (below_drawn' (Below.refl _ _) 1), HA.out.2.next (below_drawn' (Below.refl _ _) 1)⟩
      obtain ⟨hd1, hd2, hd3⟩ := HLen.out k hlt
      have hln : (t.u k).n ≤ 2000000 := by
        have h1 := HA.out.1.o3.l3.len k hlt
        have h2 := join_len d G k k
        omega
      have hbl : bs ≤ (World.drew wr).heap.size := by have := HD.out.1.lo; have := HD.out.1.o.box.box.lt; omega
      have xc := HD.out.2.cell k hlt
      have xl := HD.out.2.lt
      have yc := list_box HD.out.1.o hlt
      have yl := HD.out.1.o.box.box.lt
      clear HA
      go_upto_region 8 with fail
      go_region_law (first
        | (refine Ls.step_cat (by rfl) (.tmp 27) (.tmp 30) (by rfl) (by rfl) (by rfl) (base := bs) (HD.out.1.o3.own k hlt) (HL.out.below HD.out.1.bel k hlt).1 hbl (by omega) ?_; intro p4 c4 w4 hc4; have O4 := Lib.hid (og_join (G := G) HD.out.1 HD.out.2 (by omega) hlt hc4); have z4 := list_box O4.out.1 hlt; have zf := O4.out.1.box.free (2 + k); have zl := O4.out.1.box.box.lt; clear hc4))
      all_goals have G4 := Lib.hid O4.out.2
      all_goals go_wp2
      all_goals go_roundw
      all_goals first
        | exact ⟨k + 1, _, by omega, by go_num, G4⟩
        | (simp [intOf]; omega)
    · obtain rfl : k = 3 := by omega
      have e3 : ((3 : Nat) : Int) = 3 := rfl
      have dq : decide ((3 : Int) < 3) = false := by simp
      rw [e3]
      have F0 : Hid (Fb w wr s bo t (flushTo (joinD d G) 0)) := Lib.hid HA.out.1.fb
      clear HA hlt hk e3
      go_wp2
      go_loopw [9] (fun i wr => ∃ (k : Nat) (t : Hs), k ≤ s.p.n ∧ i = .int .i64 k ∧ Hid (Fb w wr s bo t (flushTo (joinD d G) k))) (fun i _ => s.p.n - (intOf i).toNat)
      case atStart => exact ⟨0, t, Nat.zero_le _, rfl, F0⟩
      case round =>
        clear F0
        obtain ⟨k, t, hk, rfl, HB⟩ := hrel
        have h64 := H64.out
        have h1c := HB.out.hb.box.box.c1
        have h1l := HB.out.hb.box.box.lt
        by_cases hlt : k < s.p.n
        · have dq : decide ((k : Int) < s.p.n) = true := by simp; omega
          have q0 := (HB.out.o.box.box).c0
          have q1 := (HB.out.o.box.box).c1
          have q2 := (HB.out.o.box.box).c2
          have q3 := (HB.out.o.box.box).c3
          have q4 := (HB.out.o.box.box).c4
          have q5 := (HB.out.o.box.box).c5
          have ql := (HB.out.o.box.box).lt
          go_wp2_with fail
          refine (HBK.out _ bo t k hlt HB.out).mono ?_
          rintro e9 w9 ⟨t9, rfl, hp9, hl9, hb9⟩
          have A9 := Lib.hid (HB.out.next hb9)
          have HX : Hid (Fb w ((((((w9.setCell ⟨bo, 0, none⟩ (.slice t9.w.a t9.w.n t9.w.c)).setCell ⟨bo, 1, none⟩ (.slice t9.p.a t9.p.n t9.p.c)).setCell ⟨bo, 2, none⟩ (.slice (t9.u 0).a (t9.u 0).n (t9.u 0).c)).setCell ⟨bo, 3, none⟩ (.slice (t9.u 1).a (t9.u 1).n (t9.u 1).c)).setCell ⟨bo, 4, none⟩ (.slice (t9.u 2).a (t9.u 2).n (t9.u 2).c)).setCell ⟨bo, 5, none⟩ (.slice t9.c.a t9.c.n t9.c.c)) s bo t9 (flushTo (joinD d G) (k + 1))) := Lib.hid (A9.out.put hp9 ⟨hl9.1.trans A9.out.ln.1, hl9.2.1.trans A9.out.ln.2.1, hl9.2.2.trans A9.out.ln.2.2⟩)
          clear q0 q1 q2 q3 q4 q5 ql
          clear hp9 hl9 hb9 HB h1c h1l
          have q0 := (A9.out.o.box.box).c0
          have q1 := (A9.out.o.box.box).c1
          have q2 := (A9.out.o.box.box).c2
          have q3 := (A9.out.o.box.box).c3
          have q4 := (A9.out.o.box.box).c4
          have q5 := (A9.out.o.box.box).c5
          have ql := (A9.out.o.box.box).lt
          have y0 := (A9.out.o.box).free 0
          have y1 := (A9.out.o.box).free 1
          have y2 := (A9.out.o.box).free 2
          have y3 := (A9.out.o.box).free 3
          have y4 := (A9.out.o.box).free 4
          have y5 := (A9.out.o.box).free 5
          go_wp2
          go_roundw
          case rel => exact ⟨k + 1, t9, by omega, by go_num, HX⟩
          case measure => simp [intOf]; omega
        · obtain rfl : k = s.p.n := by omega
          have dq : decide ((s.p.n : Int) < s.p.n) = false := by simp
          have q0 := (HB.out.o.box.box).c0
          have q1 := (HB.out.o.box.box).c1
          have q2 := (HB.out.o.box.box).c2
          have q3 := (HB.out.o.box.box).c3
          have q4 := (HB.out.o.box.box).c4
          have q5 := (HB.out.o.box.box).c5
          have ql := (HB.out.o.box.box).lt
          have x0 := (HB.out.r.box.box).c0
          have x1 := (HB.out.r.box.box).c1
          have x2 := (HB.out.r.box.box).c2
          have x3 := (HB.out.r.box.box).c3
          have x4 := (HB.out.r.box.box).c4
          have x5 := (HB.out.r.box.box).c5
          have xl := (HB.out.r.box.box).lt
          have z0 := (HB.out.r.box).free 0
          have z1 := (HB.out.r.box).free 1
          have z2 := (HB.out.r.box).free 2
          have z3 := (HB.out.r.box).free 3
          have z4 := (HB.out.r.box).free 4
          have z5 := (HB.out.r.box).free 5
          dsimp only [noHs, Ls.noSl] at x0 x1 x2 x3 x4 x5
          go_wp2
          refine bodyPost_ret (v := .tuple #[(.agg #[.slice t.w.a t.w.n t.w.c, .slice t.p.a t.p.n t.p.c, .slice (t.u 0).a (t.u 0).n (t.u 0).c, .slice (t.u 1).a (t.u 1).n (t.u 1).c, .slice (t.u 2).a (t.u 2).n (t.u 2).c, .slice t.c.a t.c.n t.c.c]), .int .i64 0]) ?_ rfl (rk_end (t := t) 0 HB.out.bel HB.out.hp HB.out.r (by omega) HB.out.ln)
          obtain ⟨k0, k1, k2, k3, k4, k5⟩ := put6_at HB.out.r.box (.slice t.w.a t.w.n t.w.c) (.slice t.p.a t.p.n t.p.c) (.slice (t.u 0).a (t.u 0).n (t.u 0).c) (.slice (t.u 1).a (t.u 1).n (t.u 1).c) (.slice (t.u 2).a (t.u 2).n (t.u 2).c) (.slice t.c.a t.c.n t.c.c)
          exact res_rflush rfl rfl k0 k1 k2 k3 k4 k5
theorem rflush_any (hp : Hp w w.heap.size s d) (l3 : Ls.L3 w w.heap.size u G) (hf : FineT s d u G) : Calls Tryz.prog 19 #[(.agg #[.slice s.w.a s.w.n s.w.c, .slice s.p.a s.p.n s.p.c, .slice (s.u 0).a (s.u 0).n (s.u 0).c, .slice (s.u 1).a (s.u 1).n (s.u 1).c, .slice (s.u 2).a (s.u 2).n (s.u 2).c, .slice s.c.a s.c.n s.c.c]), (.agg #[.slice (u 0).a (u 0).n (u 0).c, .slice (u 1).a (u 1).n (u 1).c, .slice (u 2).a (u 2).n (u 2).c])] w (RkO w (rkFlush s d G)) := by
  unfold rkFlush
  cases hm : mayH s d 1 (fun _ => G)
  · rw [if_neg (by decide)]
    exact rflush_no s u d G w hp l3 hf hm
  · rw [if_pos rfl]
    exact rflush_ok s u d G w hp l3 hf hm
end
end Go.Proofs.YtmalopciboikhaaGreatDoor.Rp
end
section
namespace Go.Proofs.YtmalopciboikhaaGreatDoor.Ls
open Go.Proofs.YtmalopciboikhaaGreatDoor
set_option maxRecDepth 100000
open Go.RowKit

theorem ints_other {xs ys : List Int} {k : Nat} (h : ¬ xs.getD k 0 = ys.getD k 0) : decide (xs = ys) = false := by
  simp only [decide_eq_false_iff_not]
  rintro rfl
  exact h rfl
theorem ints_all {xs ys : List Int} {n : Nat} (h1 : xs.length = n) (h2 : ys.length = n) (h : ∀ j, j < n → xs.getD j 0 = ys.getD j 0) : decide (xs = ys) = true := by
  simp only [decide_eq_true_eq]
  apply List.ext_getElem (by omega)
  intro i hi hj
  have := h i (by omega)
  simpa [List.getD, hi, hj] using this
theorem ints_any (B C : Nat) (A A' : Option Addr) (n m c c' : Nat) (xs ys : List Int) (w : World) (hn : n ≤ 4000000) (hm : m ≤ 4000000) (hr : Row w B A n xs) (hs : Row w C A' m ys) :
    Calls Tryz.prog 29 #[.slice A n c, .slice A' m c'] w fun e w' => e = .returned (.bool (decide (xs = ys))) ∧ ∃ d, w' = w.drewN d := by
  by_cases hnm : n = m
  · subst hnm
    have HR := Lib.hid hr
    have HS := Lib.hid hs
    clear hr hs
    go_enter Tryz.func29, Tryz.ntmps29
    go_wp2
    go_loopw [5] (fun i wr => ∃ k d : Nat, k ≤ n ∧ i = .int .i64 k ∧ wr = w.drewN d ∧ Hid (∀ j, j < k → xs.getD j 0 = ys.getD j 0)) (fun i _ => n - (intOf i).toNat)
    case atStart => exact ⟨0, 0, Nat.zero_le _, rfl, rfl, Lib.hid fun j h => absurd h (by omega)⟩
    case round =>
      obtain ⟨k, d, hk, rfl, rfl, HE⟩ := hrel
      by_cases hlt : k < n
      · obtain ⟨b, off, rfl, _, hc⟩ := HR.out.2 (by omega)
        obtain ⟨b', off', rfl, _, hc'⟩ := HS.out.2 (by omega)
        have h1 := hc k hlt
        have h2 := hc' k hlt
        clear hc hc'
        by_cases he : xs.getD k 0 = ys.getD k 0
        · have HE2 : Hid (∀ j, j < k + 1 → xs.getD j 0 = ys.getD j 0) := Lib.hid fun j hj => by
            by_cases e : j = k
            · rw [e]; exact he
            · exact HE.out j (by omega)
          rw [← he] at h2
          clear he HE
          go_wp2
          go_quiet (fail)
          go_wp2
          go_roundw
          case rel => exact ⟨k + 1, _, by omega, by go_num, rfl, HE2⟩
          case measure => simp [intOf]; omega
        · have HO := Lib.hid (ints_other he)
          obtain ⟨x, hx⟩ : ∃ x, x = xs.getD k 0 := ⟨_, rfl⟩
          obtain ⟨y, hy⟩ : ∃ y, y = ys.getD k 0 := ⟨_, rfl⟩
          rw [← hx, ← hy] at he
          rw [← hx] at h1
          rw [← hy] at h2
          have hd : (x != y) = true := by simpa using he
          clear he hx hy HE
          go_wp2
          go_quiet (fail)
          go_wp2
          go_ret
          exact ⟨rint HO.out.symm, _, World.drewN_drewN _ _ _⟩
      · obtain rfl : k = n := by omega
        have HO := Lib.hid (ints_all HR.out.1 HS.out.1 HE.out)
        clear HE
        go_wp2
        go_ret
        exact ⟨rint HO.out.symm, _, rfl⟩
  · have hd : ((n : Int) != m) = true := by simp; omega
    have HO : Hid (decide (xs = ys) = false) := Lib.hid (by
      simp only [decide_eq_false_iff_not]
      rintro rfl
      exact hnm (hr.1.symm.trans hs.1))
    clear hr hs hnm
    go_enter Tryz.func29, Tryz.ntmps29
    go_wp2
    go_ret
    exact ⟨rint HO.out.symm, 0, rfl⟩
theorem ints_tell (B C : Nat) (A A' : Option Addr) (n m c c' : Nat) (xs ys : List Int) (w : World) (hn : n ≤ 4000000) (hm : m ≤ 4000000) (hr : Row w B A n xs) (hs : Row w C A' m ys) :
    Calls Tryz.prog 29 #[.slice A n c, .slice A' m c'] w (Tells w (decide (xs = ys))) :=
  (ints_any B C A A' n m c c' xs ys w hn hm hr hs).mono fun _ _ ⟨he, d, hd⟩ => ⟨he, by rw [hd]; exact below_drewN (Below.refl _ _) _⟩

theorem below_row_drewN {w : World} {B n : Nat} {a : Option Addr} {xs : List Int} (h : Row w B a n xs) (d : Nat) : Row (w.drewN d) B a n xs := h
/-- Whether two are the same. -/
def sameUp (f g : Nat → List Int) (k : Nat) : Prop := ∀ j, j < k → f j = g j
theorem sameUp_next {f g : Nat → List Int} {k : Nat} (h : sameUp f g k) (hk : f k = g k) : sameUp f g (k + 1) := fun j hj => by
  by_cases e : j = k
  · rw [e]; exact hk
  · exact h j (by omega)
instance (f g : Nat → List Int) (k : Nat) : Decidable (sameUp f g k) := inferInstanceAs (Decidable (∀ j, j < k → f j = g j))

set_option maxHeartbeats 1000000 in
theorem same_any (B C : Nat) (u v : Nat → Sl) (f g : Nat → List Int) (w : World) (hu : L3 w B u f) (hB : B ≤ w.heap.size) (hv : L3 w C v g) (hC : C ≤ w.heap.size) (hn : ∀ j, j < 3 → (u j).n ≤ 4000000) (hm : ∀ j, j < 3 → (v j).n ≤ 4000000) :
    Calls Tryz.prog 12 #[(.agg #[.slice (u 0).a (u 0).n (u 0).c, .slice (u 1).a (u 1).n (u 1).c, .slice (u 2).a (u 2).n (u 2).c]), (.agg #[.slice (v 0).a (v 0).n (v 0).c, .slice (v 1).a (v 1).n (v 1).c, .slice (v 2).a (v 2).n (v 2).c])] w (Tells w (decide (sameUp f g 3))) := by
  have HU := Lib.hid hu
  have HV := Lib.hid hv
  have HN := Lib.hid hn
  have HM := Lib.hid hm
  clear hu hv hn hm
  go_enter Tryz.func12, Tryz.ntmps12
  go_wp2
  have bb := two_below w (.cells #[.slice (u 0).a (u 0).n (u 0).c, .slice (u 1).a (u 1).n (u 1).c, .slice (u 2).a (u 2).n (u 2).c] 25) (.cells #[.slice (v 0).a (v 0).n (v 0).c, .slice (v 1).a (v 1).n (v 1).c, .slice (v 2).a (v 2).n (v 2).c] 25)
  have X := Lib.hid ((Box3.new w u 25).alloc (.cells #[.slice (v 0).a (v 0).n (v 0).c, .slice (v 1).a (v 1).n (v 1).c, .slice (v 2).a (v 2).n (v 2).c] 25))
  have Y := Lib.hid (Box3.new (w.alloc (.cells #[.slice (u 0).a (u 0).n (u 0).c, .slice (u 1).a (u 1).n (u 1).c, .slice (u 2).a (u 2).n (u 2).c] 25)) v 25)
  have LU := Lib.hid (HU.out.over bb hB)
  have LV := Lib.hid (HV.out.over bb hC)
  rw [World.size_alloc] at Y
  obtain ⟨w1, hw1⟩ : ∃ w1, w1 = (w.alloc (.cells #[.slice (u 0).a (u 0).n (u 0).c, .slice (u 1).a (u 1).n (u 1).c, .slice (u 2).a (u 2).n (u 2).c] 25)).alloc (.cells #[.slice (v 0).a (v 0).n (v 0).c, .slice (v 1).a (v 1).n (v 1).c, .slice (v 2).a (v 2).n (v 2).c] 25) := ⟨_, rfl⟩
  rw [← hw1] at X Y LU LV bb ⊢
  have BB := Lib.hid bb
  have hx := X.out.lt
  have hy := Y.out.lt
  clear hw1 bb HU HV
  go_loopw [5] (fun i wr => ∃ k : Nat, k ≤ 3 ∧ i = .int .i64 k ∧ Hid ((∃ d, wr = w1.drewN d) ∧ sameUp f g k)) (fun i _ => 3 - (intOf i).toNat)
  case atStart => exact ⟨0, Nat.zero_le _, rfl, Lib.hid ⟨⟨0, rfl⟩, fun j h => absurd h (by omega)⟩⟩
  case round =>
    obtain ⟨k, hk, rfl, HE⟩ := hrel
    obtain ⟨d, hd⟩ := HE.out.1
    by_cases hlt : k < 3
    · have cx := (X.out.drewN d).cell k hlt
      have cy := (Y.out.drewN d).cell k hlt
      have LU2 := Lib.hid ((LU.out.drewN d) k hlt).1
      have LV2 := Lib.hid ((LV.out.drewN d) k hlt).1
      have hx2 := (X.out.drewN d).lt
      have hy2 := (Y.out.drewN d).lt
      rw [← hd] at cx cy LU2 LV2 hx2 hy2
      replace hd := Lib.hid hd
      by_cases he : f k = g k
      · have HS := Lib.hid (sameUp_next HE.out.2 he)
        have hdec : decide (f k = g k) = true := by simpa using he
        have HI := Lib.hid (fun n : Nat => by
          have := ints_any B C (u k).a (v k).a (u k).n (v k).n (u k).c (v k).c (f k) (g k) (wr.drewN n) (HN.out k hlt) (HM.out k hlt) (below_row_drewN LU2.out n) (below_row_drewN LV2.out n)
          rw [hdec] at this
          exact this)
        clear he hdec
        go_wp2
        go_quiet ((go_at_call 29; exact Calls.quiet_of (HI.out _)))
        go_wp2
        go_roundw
        case rel => exact ⟨k + 1, by omega, by go_num, Lib.hid ⟨⟨_, by rw [hd.out]; exact World.drewN_drewN _ _ _⟩, HS.out⟩⟩
        case measure => simp [intOf]; omega
      · have hdec : decide (f k = g k) = false := by simpa using he
        have HO : Hid (decide (sameUp f g 3) = false) := Lib.hid (by
          simp only [decide_eq_false_iff_not]
          intro h
          exact he (h k hlt))
        have HI := Lib.hid (fun n : Nat => by
          have := ints_any B C (u k).a (v k).a (u k).n (v k).n (u k).c (v k).c (f k) (g k) (wr.drewN n) (HN.out k hlt) (HM.out k hlt) (below_row_drewN LU2.out n) (below_row_drewN LV2.out n)
          rw [hdec] at this
          exact this)
        clear he hdec
        go_wp2
        go_quiet ((go_at_call 29; exact Calls.quiet_of (HI.out _)))
        go_wp2
        go_ret
        exact ⟨rint HO.out.symm, by rw [hd.out]; exact below_drewN (below_drewN BB.out _) _⟩
    · obtain rfl : k = 3 := by omega
      have HO : Hid (decide (sameUp f g 3) = true) := Lib.hid (by simpa using HE.out.2)
      replace hd := Lib.hid hd
      go_wp2
      go_ret
      exact ⟨rint HO.out.symm, by rw [hd.out]; exact below_drewN BB.out _⟩
end Go.Proofs.YtmalopciboikhaaGreatDoor.Ls
end
section
namespace Go.Proofs.YtmalopciboikhaaGreatDoor
open Go.RowKit
set_option maxRecDepth 100000

/-- Two heaps' boxes. -/
structure Two (w W : World) (s t : Hs) (d d2 : Hd_) : Prop where
  bel : Below w.heap.size w W
  b1 : HBox W w.heap.size s
  b2 : HBox W (w.heap.size + 1) t
  h1 : Hp W W.heap.size s d
  h2 : Hp W W.heap.size t d2
theorem Two.next {w W W' : World} {s t : Hs} {d d2 : Hd_} (h : Two w W s t d d2) (hb : Below W.heap.size W W') : Two w W' s t d d2 := ⟨h.bel.trans (hb.mono h.bel.size), h.b1.next hb, h.b2.next hb, h.h1.next hb, h.h2.next hb⟩
theorem two_start {w W : World} {s t : Hs} {d d2 : Hd_} (hp : Hp w w.heap.size s d) (ht : Hp w w.heap.size t d2) (h : W = (w.alloc (.cells #[.slice s.w.a s.w.n s.w.c, .slice s.p.a s.p.n s.p.c, .slice (s.u 0).a (s.u 0).n (s.u 0).c, .slice (s.u 1).a (s.u 1).n (s.u 1).c, .slice (s.u 2).a (s.u 2).n (s.u 2).c, .slice s.c.a s.c.n s.c.c] 28)).alloc (.cells #[.slice t.w.a t.w.n t.w.c, .slice t.p.a t.p.n t.p.c, .slice (t.u 0).a (t.u 0).n (t.u 0).c, .slice (t.u 1).a (t.u 1).n (t.u 1).c, .slice (t.u 2).a (t.u 2).n (t.u 2).c, .slice t.c.a t.c.n t.c.c] 28)) : Two w W s t d d2 := by
  have hb : Below w.heap.size w W := by rw [h]; exact ((Below.refl _ _).alloc (Nat.le_refl _) _).alloc (by simp) _
  have bx : Below (w.alloc (.cells #[.slice s.w.a s.w.n s.w.c, .slice s.p.a s.p.n s.p.c, .slice (s.u 0).a (s.u 0).n (s.u 0).c, .slice (s.u 1).a (s.u 1).n (s.u 1).c, .slice (s.u 2).a (s.u 2).n (s.u 2).c, .slice s.c.a s.c.n s.c.c] 28)).heap.size (w.alloc (.cells #[.slice s.w.a s.w.n s.w.c, .slice s.p.a s.p.n s.p.c, .slice (s.u 0).a (s.u 0).n (s.u 0).c, .slice (s.u 1).a (s.u 1).n (s.u 1).c, .slice (s.u 2).a (s.u 2).n (s.u 2).c, .slice s.c.a s.c.n s.c.c] 28)) W := by rw [h]; exact (Below.refl _ _).alloc (Nat.le_refl _) _
  have z := HBox.new (w.alloc (.cells #[.slice s.w.a s.w.n s.w.c, .slice s.p.a s.p.n s.p.c, .slice (s.u 0).a (s.u 0).n (s.u 0).c, .slice (s.u 1).a (s.u 1).n (s.u 1).c, .slice (s.u 2).a (s.u 2).n (s.u 2).c, .slice s.c.a s.c.n s.c.c] 28)) t 28
  rw [World.size_alloc] at z
  exact ⟨hb, (HBox.new w s 28).next bx, by rw [h]; exact z, hp.next hb, ht.next hb⟩
set_option maxHeartbeats 1000000 in
theorem rsame_yes (s : Hs) (d d2 : Hd_) (A1 A2 A3 : Option Addr) (C1 C2 C3 : Nat) (v : Nat → Ls.Sl) (w : World) (hp : Hp w w.heap.size s d) (ht : Hp w w.heap.size ⟨⟨A1, s.w.n, C1⟩, ⟨A2, s.p.n, C2⟩, v, ⟨A3, s.c.n, C3⟩⟩ d2) (e1 : d2.ws = d.ws) (e2 : ∀ i, i < s.p.n → d2.f i = d.f i) (e3 : ∀ j, j < 3 → d.F j = d2.F j) (e4 : ∀ i, i < s.c.n → d2.cs i = d.cs i)
    (hwn : s.w.n ≤ 4000) (hpn : s.p.n ≤ 1000) (hcn : s.c.n ≤ 100000) (hun : ∀ j, j < 3 → (s.u j).n ≤ 4000000) (hvn : ∀ j, j < 3 → (v j).n ≤ 4000000) :
    Calls Tryz.prog 11 #[(.agg #[.slice s.w.a s.w.n s.w.c, .slice s.p.a s.p.n s.p.c, .slice (s.u 0).a (s.u 0).n (s.u 0).c, .slice (s.u 1).a (s.u 1).n (s.u 1).c, .slice (s.u 2).a (s.u 2).n (s.u 2).c, .slice s.c.a s.c.n s.c.c]), (.agg #[.slice A1 s.w.n C1, .slice A2 s.p.n C2, .slice (v 0).a (v 0).n (v 0).c, .slice (v 1).a (v 1).n (v 1).c, .slice (v 2).a (v 2).n (v 2).c, .slice A3 s.c.n C3])] w fun e w' => e = .returned (.bool true) ∧ Below w.heap.size w w' := by
  have HP := Lib.hid hp
  have HT := Lib.hid ht
  have E1 := Lib.hid e1
  have E2 := Lib.hid e2
  have E3 := Lib.hid e3
  have E4 := Lib.hid e4
  have HUN := Lib.hid hun
  have HVN := Lib.hid hvn
  clear hp ht e1 e2 e3 e4 hun hvn
  go_enter Tryz.func11, Tryz.ntmps11
  go_wp2_with fail
  obtain ⟨W1, hW1⟩ : ∃ W1, W1 = (w.alloc (.cells #[.slice s.w.a s.w.n s.w.c, .slice s.p.a s.p.n s.p.c, .slice (s.u 0).a (s.u 0).n (s.u 0).c, .slice (s.u 1).a (s.u 1).n (s.u 1).c, .slice (s.u 2).a (s.u 2).n (s.u 2).c, .slice s.c.a s.c.n s.c.c] 28)).alloc (.cells #[.slice A1 s.w.n C1, .slice A2 s.p.n C2, .slice (v 0).a (v 0).n (v 0).c, .slice (v 1).a (v 1).n (v 1).c, .slice (v 2).a (v 2).n (v 2).c, .slice A3 s.c.n C3] 28) := ⟨_, rfl⟩
  have S1 := Lib.hid (two_start HP.out HT.out hW1)
  rw [← hW1]
  clear hW1
  refine (Ls.ints_tell W1.heap.size W1.heap.size s.w.a A1 s.w.n s.w.n s.w.c C1 d.ws d2.ws W1 (by omega) (by omega) S1.out.h1.words S1.out.h2.words).mono ?_
  rw [decide_eq_true E1.out.symm]
  rintro e9 w2 ⟨rfl, hb2⟩
  have S2 := Lib.hid (S1.out.next hb2)
  clear hb2 S1
  have q1 := S2.out.b1.c1
  have ql := S2.out.b1.lt
  have r1 := S2.out.b2.c1
  have rl := S2.out.b2.lt
  go_wp2_with fail
  refine (Cl.same_yes w2.heap.size w2.heap.size s.p.a A2 s.p.n s.p.c C2 d.f d2.f w2 hpn E2.out S2.out.h1.pages S2.out.h2.pages (Nat.le_refl _) (Nat.le_refl _)).mono ?_
  rintro e9 w3 ⟨rfl, hb3⟩
  have S3 := Lib.hid (S2.out.next hb3)
  clear hb3 S2 q1 ql r1 rl
  have q2 := S3.out.b1.c2
  have q3 := S3.out.b1.c3
  have q4 := S3.out.b1.c4
  have ql := S3.out.b1.lt
  have r2 := S3.out.b2.c2
  have r3 := S3.out.b2.c3
  have r4 := S3.out.b2.c4
  have rl := S3.out.b2.lt
  go_wp2_with fail
  refine (Ls.same_any w3.heap.size w3.heap.size s.u v d.F d2.F w3 S3.out.h1.free (Nat.le_refl _) S3.out.h2.free (Nat.le_refl _) HUN.out HVN.out).mono ?_
  rw [decide_eq_true (show Ls.sameUp d.F d2.F 3 from E3.out)]
  rintro e9 w4 ⟨rfl, hb4⟩
  have S4 := Lib.hid (S3.out.next hb4)
  clear hb4 S3 q2 q3 q4 ql r2 r3 r4 rl
  have q5 := S4.out.b1.c5
  have ql := S4.out.b1.lt
  have r5 := S4.out.b2.c5
  have rl := S4.out.b2.lt
  have dn : ((s.c.n : Int) != s.c.n) = false := by simp
  go_wp2
  go_loopw [8] (fun i wr => ∃ k : Nat, k ≤ s.c.n ∧ i = .int .i64 k ∧ Hid (Two w wr s ⟨⟨A1, s.w.n, C1⟩, ⟨A2, s.p.n, C2⟩, v, ⟨A3, s.c.n, C3⟩⟩ d d2)) (fun i _ => s.c.n - (intOf i).toNat)
  case atStart => exact ⟨0, Nat.zero_le _, rfl, S4⟩
  case round =>
    obtain ⟨k, hk, rfl, HR⟩ := hrel
    clear S4 q5 ql r5 rl
    have q5 := HR.out.b1.c5
    have ql := HR.out.b1.lt
    have r5 := HR.out.b2.c5
    have rl := HR.out.b2.lt
    by_cases hlt : k < s.c.n
    · have dq : decide ((k : Int) < s.c.n) = true := by simp; omega
      have ik0 : (0 : Int) ≤ k := by omega
      have ik1 : (k : Int) < s.c.n := by omega
      obtain ⟨b, off, ea, hbl, hc⟩ := HR.out.h1.cards (by omega)
      obtain ⟨b', off', ea', hbl', hc'⟩ := HR.out.h2.cards (show 0 < s.c.n by omega)
      have c1 := hc k hlt
      have c2 := hc' k hlt
      dsimp only at c2 ea' r5
      rw [E4.out k hlt] at c2
      rw [ea] at q5
      rw [ea'] at r5
      generalize d.cs k = x at c1 c2
      have dx : (x != x) = false := by simp
      clear hc hc' ea ea'
      go_wp2
      go_quiet (fail)
      have HR2 : Hid (Two w (wr.drewN nq) s ⟨⟨A1, s.w.n, C1⟩, ⟨A2, s.p.n, C2⟩, v, ⟨A3, s.c.n, C3⟩⟩ d d2) := Lib.hid (HR.out.next (below_drawn' (Below.refl _ _) nq))
      go_wp2
      go_roundw
      case rel => exact ⟨k + 1, by omega, by go_num, HR2⟩
      case measure => simp [intOf]; omega
    · have dq : decide ((k : Int) < s.c.n) = false := by simp; omega
      go_wp2
      go_ret
      exact ⟨rfl, HR.out.bel⟩
end Go.Proofs.YtmalopciboikhaaGreatDoor
end
section
namespace Go.Proofs.YtmalopciboikhaaGreatDoor
open Go.ChangeShapes Go.WideShapes Go.ChangeAt Go.RowKit Go.Deep

section
variable {H : Type} {enc : TypeId × Value → H} {P : Program} {w : World} {base : Nat} {spare : Nat → Bool} {held : Bool}

end
end Go.Proofs.YtmalopciboikhaaGreatDoor
end
section
namespace Go.Proofs.YtmalopciboikhaaGreatDoor
open Go.ChangeShapes Go.WideShapes Go.ChangeAt Go.RowKit Go.Deep
set_option maxRecDepth 100000

theorem lists_of {H : Type} {enc : TypeId × Value → H} {w : World} {base b0 : Nat} {spare : Nat → Bool} {held : Bool} {v : Value} {d : DataW H} {p : List MemPlace} {r : Reach}
    (hv : Value.okWide Tryz.prog w r b0 25 v) (h : DataW.Trod enc Tryz.prog w base spare held 25 v d p) :
    ∃ (u : Nat → Ls.Sl) (f : Nat → List Int), v = (.agg #[.slice (u 0).a (u 0).n (u 0).c, .slice (u 1).a (u 1).n (u 1).c, .slice (u 2).a (u 2).n (u 2).c]) ∧ Ls.L3 w w.heap.size u f ∧ (u 0).n + (u 1).n + (u 2).n ≤ Rows.uptoBulk d := by
  simp only [Value.okWide, Tryz.underlying25] at hv
  obtain ⟨cs, rfl, hs, _⟩ := hv
  obtain ⟨fuel, hf⟩ := h
  obtain ⟨l⟩ := cs
  have h3 : l.length = 3 := hs.trans (by kernel_rfl)
  match l, h3 with
  | [c0, c1, c2], _ =>
    obtain ⟨u, f, e, h1, h2⟩ := lists_in hf
    exact ⟨u, f, by rw [e], h1, h2⟩
theorem pin_cap {H : Type} {enc : TypeId × Value → H} {w : World} {base : Nat} {spare : Nat → Bool} {held : Bool} {fuel : Nat} {cs : List Value} {x : DataW H × List MemPlace}
    (h : DataW.trod enc Tryz.prog w base spare held fuel 23 cs = some x) : ∃ (s : Ls.Sl) (f : Nat → Int × Int), cs = [.slice s.a s.n s.c] ∧ Cl.PRow w w.heap.size s.a s.n f ∧ s.n ≤ s.c := by
  rcases open_slice_pairs Tryz.underlying23 Tryz.underlying76 (by kernel_rfl) rfl rfl (by kernel_rfl) (by kernel_rfl) h with ⟨hcs, _⟩ | ⟨x, l, c, m, n, V0, V1, D0, D1, P0, P1, hcs, _, hl, hm, hmm, _, hi⟩
  · exact ⟨⟨none, 0, 0⟩, fun _ => (0, 0), hcs, Cl.PRow.empty _ _ _ _, Nat.le_refl _⟩
  · refine ⟨⟨some x, l, c⟩, fun i => (intOf (V0 i), intOf (V1 i)), hcs, fun hn => ?_, hl⟩
    have hn' : 0 < l := hn
    have hm' : l ≤ m := by rw [hmm]; split <;> omega
    obtain ⟨b, off, spot⟩ := x
    have h0 := (hi 0 (by omega)).1
    have hs : spot = none := by simpa [Addr.add] using World.cell?_spot h0
    subst hs
    refine ⟨b, off, rfl, ?_, fun i hlt => ?_⟩
    · have := World.block_lt_of_cell? w _ h0
      simpa [Addr.add] using this
    · have hlt' : i < l := hlt
      obtain ⟨g0, g1, t0, t1⟩ := hi i (by omega)
      rw [Addr.add_lit] at g0 g1
      rw [← Nat.add_assoc] at g1
      obtain ⟨z0, e0, _⟩ := DataW.trod_int Tryz.underlying3 t0
      obtain ⟨z1, e1, _⟩ := DataW.trod_int Tryz.underlying3 t1
      simp only [List.cons.injEq, and_true] at e0 e1
      refine ⟨?_, ?_⟩
      · show _ = some (Value.int .i64 (intOf (V0 i)))
        rw [g0, e0]
        rfl
      · show _ = some (Value.int .i64 (intOf (V1 i)))
        rw [g1, e1]
        rfl
theorem heap_of8 {H : Type} {enc : TypeId × Value → H} {w : World} {base b0 : Nat} {spare : Nat → Bool} {held : Bool} {v : Value} {d : DataW H} {p : List MemPlace} {r : Reach}
    (hv : Value.okWide Tryz.prog w r b0 28 v) (h : DataW.Trod enc Tryz.prog w base spare held 28 v d p) :
    ∃ (s : Hs) (e : Hd_), v = (.agg #[.slice s.w.a s.w.n s.w.c, .slice s.p.a s.p.n s.p.c, .slice (s.u 0).a (s.u 0).n (s.u 0).c, .slice (s.u 1).a (s.u 1).n (s.u 1).c, .slice (s.u 2).a (s.u 2).n (s.u 2).c, .slice s.c.a s.c.n s.c.c]) ∧ Hp w w.heap.size s e ∧ Fit64 e.ws ∧ s.p.n ≤ s.p.c := by
  obtain ⟨⟨l⟩, rfl, hsz⟩ := okWide_struct Tryz.underlying28 hv
  obtain ⟨fuel, hf⟩ := h
  obtain ⟨xs, k, _, hx, hl, hlen, hg⟩ := DataW.trod_struct Tryz.underlying28 hf
  have hl6 : l.length = 6 := hsz.trans (by kernel_rfl)
  match l, hl6, xs, hlen with
  | [c0, c1, c2, c3, c4, c5], _, [y0, y1, y2, y3], _ =>
    have e22 : Tryz.prog.cellsOf 22 = 1 := by kernel_rfl
    have e23 : Tryz.prog.cellsOf 23 = 1 := by kernel_rfl
    have e25 : Tryz.prog.cellsOf 25 = 3 := by kernel_rfl
    have e26 : Tryz.prog.cellsOf 26 = 1 := by kernel_rfl
    have g0 : DataW.trod enc Tryz.prog w base spare held k 22 [c0] = some y0 := by have := hg 0 _ rfl; simpa [e22, Value.cells] using this
    have g1 : DataW.trod enc Tryz.prog w base spare held k 23 [c1] = some y1 := by have := hg 1 _ rfl; simpa [e23, Value.cells] using this
    have g2 : DataW.trod enc Tryz.prog w base spare held k 25 [c2, c3, c4] = some y2 := by have := hg 2 _ rfl; simpa [e25, Value.cells] using this
    have g3 : DataW.trod enc Tryz.prog w base spare held k 26 [c5] = some y3 := by have := hg 3 _ rfl; simpa [e26, Value.cells] using this
    obtain ⟨s0, zs, h0, r0, _, f0⟩ := ints_in g0
    obtain ⟨s1, f1, h1, r1, c1'⟩ := pin_cap g1
    obtain ⟨u, F, h2, r2, _⟩ := lists_in g2
    obtain ⟨s3, f3, h3, r3⟩ := bools_in g3
    simp only [List.cons.injEq, and_true] at h0 h1 h2 h3
    obtain ⟨rfl, rfl, rfl⟩ := h2
    subst h0 h1 h3
    refine ⟨⟨s0, s1, u, s3⟩, ⟨zs, f1, F, f3⟩, rfl, ⟨r0.1, r1, r2, r3⟩, f0, c1'⟩
end Go.Proofs.YtmalopciboikhaaGreatDoor
end
