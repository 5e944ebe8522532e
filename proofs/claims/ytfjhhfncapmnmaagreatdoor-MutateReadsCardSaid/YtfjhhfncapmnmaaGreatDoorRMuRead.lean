/-
  Package mutate: size, same, drop, load.
-/
import Derived.Test.YtfjhhfncapmnmaaGreatDoorHpRH
import Derived.Test.YtfjhhfncapmnmaaGreatDoorHpRI
namespace Go.Proofs.YtfjhhfncapmnmaaGreatDoor.Mu
open Go.Proofs.YtfjhhfncapmnmaaGreatDoor Go.Proofs.YtfjhhfncapmnmaaGreatDoor.Rt
open Go.RowKit
set_option maxRecDepth 100000

section
variable (P : St) (w : World)
/-- Size. -/
def sizeS (P : St) : St := if ofE P.n.s P.d P.n.t P.n.p.a = 0 then endS P 0 (ofN P.n.s P.d P.n.t P.n.p.a) else endS P (ofE P.n.s P.d P.n.t P.n.p.a) 0
/-- Same. -/
def sameS (P : St) : St := if inReg P.n.p.a = true ∧ inReg P.n.p.b = true then endS P 0 (if getV P.n.t P.n.p.a = getV P.n.t P.n.p.b then 1 else 0) else endS P 1 0
set_option maxHeartbeats 1000000 in
theorem size_no (h : Pre w P) (e : Int) (he : ofE P.n.s P.d P.n.t P.n.p.a = e) (h0 : ¬ e = 0) : Calls Tryz.prog 121 #[.agg (nv P.n).toArray] w (SOut w P.n (endS P e 0)) := by
  have HP := Lib.hid h
  have CO := Lib.hid (fun W (hL : Mw w W P.n noN P.d P.xs P.F P.g) => pobj_any P.n.s P.d P.n.t P.n.p.a W hL.hold.h (hL.over h.sz) h.fine)
  rw [he] at CO
  have d0 : (e != 0) = true := by simpa using h0
  clear he h0
  clear h
  go_enter Tryz.func121, Tryz.ntmps121
  go_upto_region 1 with fail
  obtain ⟨W1, hW1⟩ : ∃ W1, W1 = (w.alloc (.cells (nv P.n).toArray 75)).alloc (.cells #[.slice none 0 0, .slice none 0 0, .slice none 0 0, .slice none 0 0, .slice none 0 0, .slice none 0 0, .int .i64 0, .int .i64 0, .bool false, .slice none 0 0, .bool false, .int .i64 0, .int .i64 0, .int .i64 0, .int .i64 0, .bool false, .bool false, .int .i64 0, .int .i64 0, .int .i64 0, .int .i64 0, .slice none 0 0, .slice none 0 0, .slice none 0 0, .int .i64 0, .int .i64 0, .int .i64 0, .slice none 0 0, .int .i64 0, .int .i64 0, .int .i64 0, .int .i64 0, .int .i64 0, .int .i64 0, .int .i64 0, .int .i64 0, .int .i64 0, .int .i64 0, .int .i64 0, .int .i64 0, .int .i64 0, .int .i64 0, .bool false] 75) := ⟨_, rfl⟩
  have B1 := Lib.hid (mw_start P HP.out.hold hW1)
  rw [← hW1]
  clear hW1
  go_wp2_with (first
    | (refine w_load (ldH B1.out.nb.box) rfl rfl rfl rfl ?_)
    | (refine w_load (ldT B1.out.nb.box) rfl rfl rfl rfl ?_)
    | (refine w_load (ld_int B1.out.nb.box (j := 32) rfl) rfl rfl rfl rfl ?_)
    | ((go_at_call 25); (with_reducible refine (CO.out _ B1.out).mono ?_); rintro e9 w2 ⟨rfl, hb9⟩; have B2 := Lib.hid (B1.out.next hb9); clear hb9)
    | (refine w_load (ldN B2.out.nb.box) rfl rfl rfl rfl ?_)
    | ((go_at_call 75); (with_reducible refine (fail_any P.n e HP.out.one _).mono ?_); rintro e9 w8 ⟨rfl, hb9⟩; have B8 := Lib.hid (B2.out.next hb9); clear hb9)
    | (refine m_fin B8.out (B8.out.hold.ends e 0) (aw_ends B8.out.aw e 0) rfl rfl rfl rfl rfl ?_; intro W9 h9; have B9 := Lib.hid h9; clear h9))
  exact so_fin (P := endS P e 0) B9 (Eqv.refl _) ((Inh.refl _ _).ends _ _) rfl rfl rfl
set_option maxHeartbeats 1000000 in
theorem size_yes (h : Pre w P) (v : Int) (he : ofE P.n.s P.d P.n.t P.n.p.a = 0) (hv : ofN P.n.s P.d P.n.t P.n.p.a = v) : Calls Tryz.prog 121 #[.agg (nv P.n).toArray] w (SOut w P.n (endS P 0 v)) := by
  have HP := Lib.hid h
  have CO := Lib.hid (fun W (hL : Mw w W P.n noN P.d P.xs P.F P.g) => pobj_any P.n.s P.d P.n.t P.n.p.a W hL.hold.h (hL.over h.sz) h.fine)
  rw [he, hv] at CO
  clear he hv
  clear h
  go_enter Tryz.func121, Tryz.ntmps121
  go_upto_region 1 with fail
  obtain ⟨W1, hW1⟩ : ∃ W1, W1 = (w.alloc (.cells (nv P.n).toArray 75)).alloc (.cells #[.slice none 0 0, .slice none 0 0, .slice none 0 0, .slice none 0 0, .slice none 0 0, .slice none 0 0, .int .i64 0, .int .i64 0, .bool false, .slice none 0 0, .bool false, .int .i64 0, .int .i64 0, .int .i64 0, .int .i64 0, .bool false, .bool false, .int .i64 0, .int .i64 0, .int .i64 0, .int .i64 0, .slice none 0 0, .slice none 0 0, .slice none 0 0, .int .i64 0, .int .i64 0, .int .i64 0, .slice none 0 0, .int .i64 0, .int .i64 0, .int .i64 0, .int .i64 0, .int .i64 0, .int .i64 0, .int .i64 0, .int .i64 0, .int .i64 0, .int .i64 0, .int .i64 0, .int .i64 0, .int .i64 0, .int .i64 0, .bool false] 75) := ⟨_, rfl⟩
  have B1 := Lib.hid (mw_start P HP.out.hold hW1)
  rw [← hW1]
  clear hW1
  go_wp2_with (first
    | (refine w_load (ldH B1.out.nb.box) rfl rfl rfl rfl ?_)
    | (refine w_load (ldT B1.out.nb.box) rfl rfl rfl rfl ?_)
    | (refine w_load (ld_int B1.out.nb.box (j := 32) rfl) rfl rfl rfl rfl ?_)
    | ((go_at_call 25); (with_reducible refine (CO.out _ B1.out).mono ?_); rintro e9 w2 ⟨rfl, hb9⟩; have B2 := Lib.hid (B1.out.next hb9); clear hb9)
    | (refine w_load (ldN B2.out.nb.box) rfl rfl rfl rfl ?_)
    | ((go_at_call 166); (with_reducible refine (end_any P.n v HP.out.one _).mono ?_); rintro e9 w8 ⟨rfl, hb9⟩; have B8 := Lib.hid (B2.out.next hb9); clear hb9)
    | (refine m_fin B8.out (B8.out.hold.ends 0 v) (aw_ends B8.out.aw 0 v) rfl rfl rfl rfl rfl ?_; intro W9 h9; have B9 := Lib.hid h9; clear h9))
  exact so_fin (P := endS P 0 v) B9 (Eqv.refl _) ((Inh.refl _ _).ends _ _) rfl rfl rfl
theorem size_any (h : Pre w P) : Calls Tryz.prog 121 #[.agg (nv P.n).toArray] w (SOut w P.n (sizeS P)) := by
  unfold sizeS
  split
  · next h0 => exact size_yes P w h _ h0 rfl
  · next h0 => exact size_no P w h _ rfl h0
set_option maxHeartbeats 1000000 in
theorem same_no1 (h : Pre w P) (ha : inReg P.n.p.a = false) : Calls Tryz.prog 120 #[.agg (nv P.n).toArray] w (SOut w P.n (endS P 1 0)) := by
  have HP := Lib.hid h
  have CA := Lib.hid (fun W => get_any P.n.t P.n.p.a W)
  rw [show getE P.n.p.a = 1 from if_neg (by rw [ha]; decide)] at CA
  clear ha
  clear h
  go_enter Tryz.func120, Tryz.ntmps120
  go_upto_region 1 with fail
  obtain ⟨W1, hW1⟩ : ∃ W1, W1 = (w.alloc (.cells (nv P.n).toArray 75)).alloc (.cells #[.slice none 0 0, .slice none 0 0, .slice none 0 0, .slice none 0 0, .slice none 0 0, .slice none 0 0, .int .i64 0, .int .i64 0, .bool false, .slice none 0 0, .bool false, .int .i64 0, .int .i64 0, .int .i64 0, .int .i64 0, .bool false, .bool false, .int .i64 0, .int .i64 0, .int .i64 0, .int .i64 0, .slice none 0 0, .slice none 0 0, .slice none 0 0, .int .i64 0, .int .i64 0, .int .i64 0, .slice none 0 0, .int .i64 0, .int .i64 0, .int .i64 0, .int .i64 0, .int .i64 0, .int .i64 0, .int .i64 0, .int .i64 0, .int .i64 0, .int .i64 0, .int .i64 0, .int .i64 0, .int .i64 0, .int .i64 0, .bool false] 75) := ⟨_, rfl⟩
  have B1 := Lib.hid (mw_start P HP.out.hold hW1)
  rw [← hW1]
  clear hW1
  go_wp2_with (first
    | (refine w_load (ldT B1.out.nb.box) rfl rfl rfl rfl ?_)
    | (refine w_load (ld_int B1.out.nb.box (j := 32) rfl) rfl rfl rfl rfl ?_)
    | ((go_at_call 26); (with_reducible refine (CA.out _).mono ?_); rintro e9 w2 ⟨rfl, hb9⟩; have B2 := Lib.hid (B1.out.next hb9); clear hb9)
    | (refine w_load (ldN B2.out.nb.box) rfl rfl rfl rfl ?_)
    | ((go_at_call 75); (with_reducible refine (fail_any P.n 1 HP.out.one _).mono ?_); rintro e9 w8 ⟨rfl, hb9⟩; have B8 := Lib.hid (B2.out.next hb9); clear hb9)
    | (refine m_fin B8.out (B8.out.hold.ends 1 0) (aw_ends B8.out.aw 1 0) rfl rfl rfl rfl rfl ?_; intro W9 h9; have B9 := Lib.hid h9; clear h9))
  exact so_fin (P := endS P 1 0) B9 (Eqv.refl _) ((Inh.refl _ _).ends _ _) rfl rfl rfl
set_option maxHeartbeats 1000000 in
theorem same_no2 (h : Pre w P) (ha : inReg P.n.p.a = true) (hb : inReg P.n.p.b = false) : Calls Tryz.prog 120 #[.agg (nv P.n).toArray] w (SOut w P.n (endS P 1 0)) := by
  have HP := Lib.hid h
  have CA := Lib.hid (fun W => get_any P.n.t P.n.p.a W)
  have CB := Lib.hid (fun W => get_any P.n.t P.n.p.b W)
  rw [show getE P.n.p.a = 0 from if_pos ha] at CA
  rw [show getE P.n.p.b = 1 from if_neg (by rw [hb]; decide)] at CB
  clear ha hb
  clear h
  go_enter Tryz.func120, Tryz.ntmps120
  go_upto_region 1 with fail
  obtain ⟨W1, hW1⟩ : ∃ W1, W1 = (w.alloc (.cells (nv P.n).toArray 75)).alloc (.cells #[.slice none 0 0, .slice none 0 0, .slice none 0 0, .slice none 0 0, .slice none 0 0, .slice none 0 0, .int .i64 0, .int .i64 0, .bool false, .slice none 0 0, .bool false, .int .i64 0, .int .i64 0, .int .i64 0, .int .i64 0, .bool false, .bool false, .int .i64 0, .int .i64 0, .int .i64 0, .int .i64 0, .slice none 0 0, .slice none 0 0, .slice none 0 0, .int .i64 0, .int .i64 0, .int .i64 0, .slice none 0 0, .int .i64 0, .int .i64 0, .int .i64 0, .int .i64 0, .int .i64 0, .int .i64 0, .int .i64 0, .int .i64 0, .int .i64 0, .int .i64 0, .int .i64 0, .int .i64 0, .int .i64 0, .int .i64 0, .bool false] 75) := ⟨_, rfl⟩
  have B1 := Lib.hid (mw_start P HP.out.hold hW1)
  rw [← hW1]
  clear hW1
  go_wp2_with (first
    | (refine w_load (ldT B1.out.nb.box) rfl rfl rfl rfl ?_)
    | (refine w_load (ld_int B1.out.nb.box (j := 32) rfl) rfl rfl rfl rfl ?_)
    | ((go_at_call 26); (with_reducible refine (CA.out _).mono ?_); rintro e9 w2 ⟨rfl, hb9⟩; have B2 := Lib.hid (B1.out.next hb9); clear hb9)
    | (refine w_load (ldT B2.out.nb.box) rfl rfl rfl rfl ?_)
    | (refine w_load (ld_int B2.out.nb.box (j := 33) rfl) rfl rfl rfl rfl ?_)
    | ((go_at_call 26); (with_reducible refine (CB.out _).mono ?_); rintro e9 w3 ⟨rfl, hb9⟩; have B3 := Lib.hid (B2.out.next hb9); clear hb9)
    | (refine w_load (ldN B3.out.nb.box) rfl rfl rfl rfl ?_)
    | ((go_at_call 75); (with_reducible refine (fail_any P.n 1 HP.out.one _).mono ?_); rintro e9 w8 ⟨rfl, hb9⟩; have B8 := Lib.hid (B3.out.next hb9); clear hb9)
    | (refine m_fin B8.out (B8.out.hold.ends 1 0) (aw_ends B8.out.aw 1 0) rfl rfl rfl rfl rfl ?_; intro W9 h9; have B9 := Lib.hid h9; clear h9))
  exact so_fin (P := endS P 1 0) B9 (Eqv.refl _) ((Inh.refl _ _).ends _ _) rfl rfl rfl
set_option maxHeartbeats 1000000 in
theorem same_core (h : Pre w P) (x y v : Int) (q : Bool) (hx : getV P.n.t P.n.p.a = x) (hy : getV P.n.t P.n.p.b = y) (hq : decide (x = y) = q) (hv : (if q = true then (1 : Int) else 0) = v) (ha : inReg P.n.p.a = true) (hb : inReg P.n.p.b = true) : Calls Tryz.prog 120 #[.agg (nv P.n).toArray] w (SOut w P.n (endS P 0 v)) := by
  have HP := Lib.hid h
  have CA := Lib.hid (fun W => get_any P.n.t P.n.p.a W)
  have CB := Lib.hid (fun W => get_any P.n.t P.n.p.b W)
  rw [show getE P.n.p.a = 0 from if_pos ha] at CA
  rw [show getE P.n.p.b = 0 from if_pos hb] at CB
  rw [hx] at CA
  rw [hy] at CB
  have hq2 : (x == y) = q := hq
  clear ha hb hx hy
  have C1 := Lib.hid (fun W => one_any q W)
  rw [hv] at C1
  clear hv
  clear h
  go_enter Tryz.func120, Tryz.ntmps120
  go_upto_region 1 with fail
  obtain ⟨W1, hW1⟩ : ∃ W1, W1 = (w.alloc (.cells (nv P.n).toArray 75)).alloc (.cells #[.slice none 0 0, .slice none 0 0, .slice none 0 0, .slice none 0 0, .slice none 0 0, .slice none 0 0, .int .i64 0, .int .i64 0, .bool false, .slice none 0 0, .bool false, .int .i64 0, .int .i64 0, .int .i64 0, .int .i64 0, .bool false, .bool false, .int .i64 0, .int .i64 0, .int .i64 0, .int .i64 0, .slice none 0 0, .slice none 0 0, .slice none 0 0, .int .i64 0, .int .i64 0, .int .i64 0, .slice none 0 0, .int .i64 0, .int .i64 0, .int .i64 0, .int .i64 0, .int .i64 0, .int .i64 0, .int .i64 0, .int .i64 0, .int .i64 0, .int .i64 0, .int .i64 0, .int .i64 0, .int .i64 0, .int .i64 0, .bool false] 75) := ⟨_, rfl⟩
  have B1 := Lib.hid (mw_start P HP.out.hold hW1)
  rw [← hW1]
  clear hW1
  go_upto_region 7 with (first
    | (refine w_load (ldT B1.out.nb.box) rfl rfl rfl rfl ?_)
    | (refine w_load (ld_int B1.out.nb.box (j := 32) rfl) rfl rfl rfl rfl ?_)
    | ((go_at_call 26); (with_reducible refine (CA.out _).mono ?_); rintro e9 w2 ⟨rfl, hb9⟩; have B2 := Lib.hid (B1.out.next hb9); clear hb9)
    | (refine w_load (ldT B2.out.nb.box) rfl rfl rfl rfl ?_)
    | (refine w_load (ld_int B2.out.nb.box (j := 33) rfl) rfl rfl rfl rfl ?_)
    | ((go_at_call 26); (with_reducible refine (CB.out _).mono ?_); rintro e9 w3 ⟨rfl, hb9⟩; have B3 := Lib.hid (B2.out.next hb9); clear hb9))
  have KE := B3
  refine Sh.region_gen fun a0 ha0 => ?_
  have G1 : a0.tmps[1]? = some (.pointer (some ⟨w.heap.size, 0, none⟩)) := by rw [ha0]; rfl
  have G2 : a0.tmps[2]? = some (.pointer (some ⟨w.heap.size + 1, 0, none⟩)) := by rw [ha0]; rfl
  have G3 : a0.tmps[3]? = some (.int .i64 x) := by rw [ha0]; rfl
  have G5 : a0.tmps[5]? = some (.int .i64 y) := by rw [ha0]; rfl
  have TD : a0.defers = [] := congrArg Act.defers ha0
  have TZ : a0.tmps.size = 40 := by rw [ha0]; rfl
  clear ha0
  refine region_plan (by kernel_rfl) (by kernel_rfl) (by rw [TZ]; kernel_rfl) (fun (_ : Unit) (i : Nat) => (match i with | 0 => Value.agg (nv P.n).toArray | 1 => Value.int .i64 x | 2 => Value.int .i64 y | 3 => Value.bool q | 4 => Value.int .i64 v | 5 => Value.agg (nv (endN P.n 0 v)).toArray | _ => undef : Value)) (fun _ l W => Box W w.heap.size (nv P.n) ∧ (l 5 = false → Mw w W P.n noN P.d P.xs P.F P.g) ∧ (l 5 = true → l 6 = false → Mw w W P.n noN P.d P.xs P.F P.g) ∧ (l 6 = true → l 5 = true ∧ Nb w W P.n (endN P.n 0 v) ∧ Hold W ⟨(endN P.n 0 v), P.d, P.xs, P.F, gS P.g⟩)) () ?start ?step ?done
  case start =>
    have K9 := KE.out.next (W' := World.drew _) ⟨rfl, rfl, rfl, Nat.le_refl _, fun _ _ => rfl⟩
    exact ⟨K9.nb.box, fun _ => K9, (fun h => by cases h), (fun h => by cases h)⟩
  case step =>
    rintro i o9 l a9 _ W9 ho hP hI hl haft K hK
    have hi : i < 7 := (Array.getElem?_eq_some_iff.1 ho).1
    rcases (show i = 0 ∨ i = 1 ∨ i = 2 ∨ i = 3 ∨ i = 4 ∨ i = 5 ∨ i = 6 by omega) with rfl | rfl | rfl | rfl | rfl | rfl | rfl
    · obtain rfl := Option.some.inj ho
      have q1 := (hP.keep (j := 1) (by kernel_rfl)).trans G1
      refine p_load rfl (ev q1) (ldN hI.1) ?_
      exact hK () _ (fun _ _ => rfl) ⟨hI.1, fun h => hI.2.1 (by rwa [Ls.upd_other _ _ (by decide)] at h), fun h h' => hI.2.2.1 (by rwa [Ls.upd_other _ _ (by decide)] at h) (by rwa [Ls.upd_other _ _ (by decide)] at h'), fun h => by rw [Ls.upd_other _ _ (by decide)] at h; exact ⟨by rw [Ls.upd_other _ _ (by decide)]; exact (hI.2.2.2 h).1, (hI.2.2.2 h).2⟩⟩
    · obtain rfl := Option.some.inj ho
      have q3 := (hP.keep (j := 3) (by kernel_rfl)).trans G3
      go_simp
      exact hK () _ (fun _ _ => rfl) ⟨hI.1, fun h => hI.2.1 (by rwa [Ls.upd_other _ _ (by decide)] at h), fun h h' => hI.2.2.1 (by rwa [Ls.upd_other _ _ (by decide)] at h) (by rwa [Ls.upd_other _ _ (by decide)] at h'), fun h => by rw [Ls.upd_other _ _ (by decide)] at h; exact ⟨by rw [Ls.upd_other _ _ (by decide)]; exact (hI.2.2.2 h).1, (hI.2.2.2 h).2⟩⟩
    · obtain rfl := Option.some.inj ho
      have q5 := (hP.keep (j := 5) (by kernel_rfl)).trans G5
      go_simp
      exact hK () _ (fun _ _ => rfl) ⟨hI.1, fun h => hI.2.1 (by rwa [Ls.upd_other _ _ (by decide)] at h), fun h h' => hI.2.2.1 (by rwa [Ls.upd_other _ _ (by decide)] at h) (by rwa [Ls.upd_other _ _ (by decide)] at h'), fun h => by rw [Ls.upd_other _ _ (by decide)] at h; exact ⟨by rw [Ls.upd_other _ _ (by decide)]; exact (hI.2.2.2 h).1, (hI.2.2.2 h).2⟩⟩
    · obtain rfl := Option.some.inj ho
      have e1 := hP.got 1 _ 35 rfl (haft ⟨1, .data⟩ (by simp) rfl) rfl
      try dsimp only at e1
      have e2 := hP.got 2 _ 36 rfl (haft ⟨2, .data⟩ (by simp) rfl) rfl
      try dsimp only at e2
      go_simp
      exact hK () _ (fun _ _ => rfl) ⟨hI.1, fun h => hI.2.1 (by rwa [Ls.upd_other _ _ (by decide)] at h), fun h h' => hI.2.2.1 (by rwa [Ls.upd_other _ _ (by decide)] at h) (by rwa [Ls.upd_other _ _ (by decide)] at h'), fun h => by rw [Ls.upd_other _ _ (by decide)] at h; exact ⟨by rw [Ls.upd_other _ _ (by decide)]; exact (hI.2.2.2 h).1, (hI.2.2.2 h).2⟩⟩
    · obtain rfl := Option.some.inj ho
      have e3 := hP.got 3 _ 37 rfl (haft ⟨3, .data⟩ (by simp) rfl) rfl
      try dsimp only at e3
      go_simp
      refine (C1.out _).mono ?_
      rintro e9 w9 ⟨rfl, rfl⟩
      exact hK () _ (fun _ _ => rfl) ⟨hI.1, fun h => hI.2.1 (by rwa [Ls.upd_other _ _ (by decide)] at h), fun h h' => hI.2.2.1 (by rwa [Ls.upd_other _ _ (by decide)] at h) (by rwa [Ls.upd_other _ _ (by decide)] at h'), fun h => by rw [Ls.upd_other _ _ (by decide)] at h; exact ⟨by rw [Ls.upd_other _ _ (by decide)]; exact (hI.2.2.2 h).1, (hI.2.2.2 h).2⟩⟩
    · obtain rfl := Option.some.inj ho
      have e0 := hP.got 0 _ 34 rfl (haft ⟨0, .data⟩ (by simp) rfl) rfl
      try dsimp only at e0
      have e4 := hP.got 4 _ 38 rfl (haft ⟨4, .data⟩ (by simp) rfl) rfl
      try dsimp only at e4
      go_simp
      refine (end_any P.n v HP.out.one _).mono ?_
      rintro e9 w9 ⟨rfl, hb9⟩
      have K9 := (hI.2.1 hl).next hb9
      exact hK () _ (fun _ _ => rfl) ⟨K9.nb.box, (fun h => by rw [Ls.upd_same] at h; cases h), fun _ _ => K9, (fun h => by rw [Ls.upd_other _ _ (by decide)] at h; have := (hI.2.2.2 h).1; rw [hl] at this; cases this)⟩
    · obtain rfl := Option.some.inj ho
      have q2 := (hP.keep (j := 2) (by kernel_rfl)).trans G2
      have e5 := hP.got 5 _ 39 rfl (haft ⟨5, .data⟩ (by simp) rfl) rfl
      try dsimp only at e5
      have h5 := haft ⟨5, .data⟩ (by simp) rfl
      have K9 := hI.2.2.1 h5 hl
      refine p_store rfl (ev q2) (ev e5) (stN K9.nb.res) ?_
      have hN := K9.nb.ends (m' := (endN P.n 0 v)) rfl
      exact hK () _ (fun _ _ => rfl) ⟨hN.box, (fun h => by rw [Ls.upd_other _ _ (by decide)] at h; rw [h5] at h; cases h), (fun _ h => by rw [Ls.upd_same] at h; cases h), fun _ => ⟨by rw [Ls.upd_other _ _ (by decide)]; exact h5, hN, hold_keep (b := w.heap.size) (K9.hold.ends 0 v) (aw_ends K9.aw 0 v) (fun _ _ hk => puts_other _ _ _ _ hk) (puts_size _ _ _ _)⟩⟩
  case done =>
    rintro l a9 _ W9 hP hI hall
    have h9 := hI.2.2.2 (hall 6 (by decide))
    have t2 := (hP.keep (j := 2) (by kernel_rfl)).trans G2
    have td := hP.df.trans TD
    have B9 := Lib.hid h9.2
    clear hP hI hall h9
    go_wp2
    exact so_fin (P := endS P 0 v) B9 (Eqv.refl _) ((Inh.refl _ _).ends _ _) rfl td t2
theorem same_any (h : Pre w P) : Calls Tryz.prog 120 #[.agg (nv P.n).toArray] w (SOut w P.n (sameS P)) := by
  unfold sameS
  cases ha : inReg P.n.p.a with
  | false => rw [if_neg (fun h => by cases h.1)]; exact same_no1 P w h ha
  | true =>
    cases hb : inReg P.n.p.b with
    | false => rw [if_neg (fun h => by cases h.2)]; exact same_no2 P w h ha hb
    | true =>
      rw [if_pos ⟨rfl, rfl⟩]
      refine same_core P w h _ _ _ _ rfl rfl rfl ?_ ha hb
      simp only [decide_eq_true_eq]
end
end Go.Proofs.YtfjhhfncapmnmaaGreatDoor.Mu
