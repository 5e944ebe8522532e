/-
  CellsTells: any pages have the cells, and any address the room, the cell, and the next one, that the document says: for every slice of at most 70 pages, every number of a page, every address; the table of sizes is tied to the program's text by the card.
-/
import Derived.Test.YtlmaeppckaempaaDoorClFrame
import Derived.Test.YtlmaeppckaempaaDoorClRefTold
namespace Go.Proofs.YtlmaeppckaempaaDoor.CellsTells
open Go.Proofs.YtlmaeppckaempaaDoor
open Go.ChangeShapes Go.WideShapes Go.ChangeAt Go.RowKit

theorem early (A : Option Addr) (len cap : Nat) (f : Nat → Int × Int) (p a : Int) (w : World) (hz : Sz w) (hp : PIn w A len cap f) (hlen : 70 < len) :
    Calls Tryd.prog 3 #[.slice A len cap, .int .i64 p, .int .i64 a] w fun e w' => e = .returned (.bool true) ∧ Below w.heap.size w w' := by
  have HZ := Lib.hid hz
  have hcl := hp.2.1
  have hcm := hp.2.2
  clear hz hp
  go_enter Tryd.func3, Tryd.ntmps3
  go_wp2_with fail
  refine (awake_yes _ HZ.out).mono ?_
  rintro e w1 ⟨rfl, hb1⟩
  have HB := Lib.hid hb1
  clear hb1
  go_wp2
  go_ret
  exact ⟨rfl, HB.out⟩
theorem onS_short (f : Nat → Int × Int) (n : Nat) (a : Int) : (onS f n a).length ≤ 8 := by
  unfold onS
  split
  · next h => rw [List.length_map, pageL_length]; exact (num_room (may_pm h.1 (by omega))).1
  · simp

set_option maxRecDepth 100000 in
set_option maxHeartbeats 2000000 in
theorem walk (A : Option Addr) (len cap : Nat) (f : Nat → Int × Int) (p a : Int) (w : World) (hz : Sz w) (hp : PIn w A len cap f) (_ : (Lit.int .i64 p).wf = true) (_ : (Lit.int .i64 a).wf = true) :
    Calls Tryd.prog 3 #[.slice A len cap, .int .i64 p, .int .i64 a] w fun e w' => e = .returned (.bool true) ∧ Below w.heap.size w w' := by
  by_cases hlen : 70 < len
  · exact early A len cap f p a w hz hp hlen
  have hn : len ≤ 70 := by omega
  have hn' : len ≤ 1000 := by omega
  have HN := Lib.hid (Now.begin hz hp)
  have HZ := Lib.hid hz
  have hcl := hp.2.1
  have hcm := hp.2.2
  obtain ⟨k, HK⟩ : ∃ k, Hid ((onS f len p).length = k) := ⟨_, Lib.hid rfl⟩
  have hk : k ≤ 8 := by rw [← HK.out]; exact onS_short f len p
  obtain ⟨m, HL⟩ : ∃ m, Hid ((allS f len).length = m) := ⟨_, Lib.hid rfl⟩
  have hm : m ≤ 512 := by rw [← HL.out]; simp only [allS, List.length_map]; exact allL_length f len
  obtain ⟨s, HS⟩ : ∃ s, Hid ((foundV (allL f len) (pIn a)).1 = s) := ⟨_, Lib.hid rfl⟩
  obtain ⟨is, HIs⟩ : ∃ s, Hid (foundS (allL f len) (pIn a) = s) := ⟨_, Lib.hid rfl⟩
  obtain ⟨u, HU⟩ : ∃ s, Hid ((foundV (allL f len) (pUp a)).1 = s) := ⟨_, Lib.hid rfl⟩
  obtain ⟨has, HHs⟩ : ∃ s, Hid (foundS (allL f len) (pUp a) = s) := ⟨_, Lib.hid rfl⟩
  obtain ⟨r, HRm⟩ : ∃ s, Hid ((foundV (allL f len) (pAt a)).2 = s) := ⟨_, Lib.hid rfl⟩
  have HBg : Hid (bg f len a = r) := Lib.hid ((bg_room f len a).symm.trans HRm.out)
  clear hz hp hlen
  go_enter Tryd.func3, Tryd.ntmps3
  go_wp2_with fail
  refine (awake_yes _ HZ.out).mono ?_
  rintro e w1 ⟨rfl, hb1⟩
  have HN1 := Lib.hid (HN.out.next hb1)
  clear hb1
  go_wp2_with fail
  refine (HN1.out.on cap p hn').mono ?_
  rintro e w2 ⟨a2, c2, rfl, hr2, hc2, hcm2, hb2⟩
  rw [HK.out] at hr2 hc2
  rw [HK.out]
  have HN2 := Lib.hid (HN1.out.next hb2)
  have HR2 := Lib.hid hr2
  clear hr2 hb2
  go_wp2_with fail
  refine (ron_any w.heap.size _ _ _ f p w2 hn' HN2.out.row HN2.out.bel.size).mono ?_
  rintro e w3 ⟨a3, c3, rfl, hr3, hc3, hcm3, hb3⟩
  rw [HK.out] at hr3 hc3
  rw [HK.out]
  have HN3 := Lib.hid (HN2.out.next hb3)
  have HR23 := Lib.hid (HR2.out.over hb3 (Nat.le_refl _))
  have HR3 := Lib.hid hr3
  clear hr3 hb3
  go_wp2_with fail
  refine (ints_same _ _ _ _ _ _ _ (onS f len p) _ (by omega) HR23.out HR3.out).mono ?_
  rintro e w4 ⟨rfl, hb4⟩
  have HN4 := Lib.hid (HN3.out.next hb4)
  clear hb4
  go_wp2_with fail
  refine (HN4.out.all cap hn').mono ?_
  rintro e w5 ⟨a5, c5, rfl, hr5, hc5, hcm5, hb5⟩
  rw [HL.out] at hr5 hc5
  rw [HL.out]
  have HN5 := Lib.hid (HN4.out.next hb5)
  have HR5 := Lib.hid hr5
  clear hr5 hb5
  go_wp2_with fail
  refine (rall_any w.heap.size _ _ _ f w5 hn' HN5.out.row HN5.out.bel.size).mono ?_
  rintro e w6 ⟨a6, c6, rfl, hr6, hc6, hcm6, hb6⟩
  rw [HL.out] at hr6 hc6
  rw [HL.out]
  have HN6 := Lib.hid (HN5.out.next hb6)
  have HR56 := Lib.hid (HR5.out.over hb6 (Nat.le_refl _))
  have HR6 := Lib.hid hr6
  clear hr6 hb6
  go_wp2_with fail
  refine (ints_same _ _ _ _ _ _ _ (allS f len) _ (by omega) HR56.out HR6.out).mono ?_
  rintro e w7 ⟨rfl, hb7⟩
  have HN7 := Lib.hid (HN6.out.next hb7)
  clear hb7
  go_wp2_with fail
  refine (HN7.out.start cap a s is HS.out HIs.out hn').mono ?_
  rintro e w8 ⟨rfl, hb8⟩
  have HN8 := Lib.hid (HN7.out.next hb8)
  clear hb8
  go_wp2_with fail
  refine (rstart_any w.heap.size _ _ _ f a w8 hn' HN8.out.row HN8.out.bel.size).mono ?_
  rintro e w9 ⟨rfl, hb9⟩
  have HN9 := Lib.hid (HN8.out.next hb9)
  clear hb9
  rw [HS.out, HIs.out]
  go_wp2_with fail
  refine (HN9.out.up cap a u has HU.out HHs.out hn').mono ?_
  rintro e w10 ⟨rfl, hb10⟩
  have HN10 := Lib.hid (HN9.out.next hb10)
  clear hb10
  go_wp2_with fail
  refine (rnext_any w.heap.size _ _ _ f a w10 hn' HN10.out.row HN10.out.bel.size).mono ?_
  rintro e w11 ⟨rfl, hb11⟩
  have HN11 := Lib.hid (HN10.out.next hb11)
  clear hb11
  rw [HU.out, HHs.out]
  go_wp2_with fail
  refine (HN11.out.room cap a r HRm.out hn').mono ?_
  rintro e w12 ⟨rfl, hb12⟩
  have HN12 := Lib.hid (HN11.out.next hb12)
  clear hb12
  go_wp2_with fail
  refine (rbegins_any w.heap.size _ _ _ f a w12 hn' HN12.out.row HN12.out.bel.size).mono ?_
  rintro e w13 ⟨rfl, hb13⟩
  have HN13 := Lib.hid (HN12.out.next hb13)
  clear hb13
  rw [HBg.out]
  go_wp2
  go_ret
  exact ⟨rfl, HN13.out.bel⟩

set_option maxRecDepth 100000 in
theorem lifted (os : Os) (started : os.Started) (H : Type) (enc : TypeId × Value → H) :
    ReturnsInHanded {} Tryd.checked os 3 .any (fun w args => (Rows.cellsTellsSpec.pre enc Tryd.prog Tryd.f3 [] false w args ∧ laidMetH Tryd.prog laidSizes w) ∧ sizedMet enc Tryd.prog Tryd.f3 (OpenSpec.ofChange Rows.cellsTellsSpec) false w args)
      (Rows.cellsTellsSpec.post enc Tryd.prog Tryd.f3 false true false false) := by
  refine returnsInHanded_of_change_and (C := Tryd.checked) (X := fun w _ => laidMetH Tryd.prog laidSizes w) (fun _ _ _ hh h => h.of_heap hh) own started (by kernel_rfl) Tryd.func3
    (ChangeSpec.witness_shaped (enc := enc) (C := Tryd.checked) (os := os) (X := fun w _ => laidMetH Tryd.prog laidSizes w) false (World.doorLaid Tryd.prog 400 os) #[.slice none 0 0, .int .i64 0, .int .i64 0] 8 rfl (World.shaped_of_RefB (by kernel_rfl) (by kernel_rfl)) (by kernel_rfl) (by kernel_rfl) (by kernel_rfl) (door_met os _)) ?_
  intro W base args ds gs before hval0 hW _ _ hL _
  have hval : ∀ (j : Nat) t v, Tryd.f3.params[j]? = some t → args[j]? = some v → Value.okWide Tryd.prog W .any base t v := hval0
  have hW' := hW
  obtain ⟨p, q, hA0, hV, rfl, hfz, hnd⟩ := hW
  have hA : DataW.TrodAll enc Tryd.prog W 0 (fun _ => true) true Tryd.f3.params.toList args.toList ds p := hA0
  rw [Tryd.params3] at hA hval
  obtain ⟨v0, vs0, d0, ds0, p0, q0, hargs, rfl, rfl, h0, r0⟩ := trodAll_cons hA
  obtain ⟨v1, vs1, d1, ds1, p1, q1, rfl, rfl, rfl, h1, r1⟩ := trodAll_cons r0
  obtain ⟨v2, vs2, d2, ds2, p2, q2, rfl, rfl, rfl, h2, r2⟩ := trodAll_cons r1
  obtain ⟨rfl, rfl, rfl⟩ := trodAll_nil r2
  obtain rfl : args = #[v0, v1, v2] := by cases args; simp_all
  obtain ⟨rfl, rfl⟩ := trodVars_none hV
  obtain ⟨a0, len0, cap0, rfl⟩ := okWide_slice Tryd.underlying22 (hval 0 22 v0 rfl rfl)
  have k0 := h0
  have lt0 : ∀ x ∈ p0, x.block < W.heap.size := by obtain ⟨m, hm⟩ := k0; exact DataW.trod_lt m _ _ _ hm
  obtain ⟨z0, w0⟩ : ∃ f, PIn W a0 len0 cap0 f := pin_of h0
  obtain ⟨a1, rfl, rfl, rfl, w1⟩ := open_int Tryd.underlying3 (hval 1 3 v1 rfl rfl) h1
  obtain ⟨a2, rfl, rfl, rfl, w2⟩ := open_int Tryd.underlying3 (hval 2 3 v2 rfl rfl) h2
  clear hA0 hval0
  refine (walk a0 len0 cap0 z0 a1 a2 W (of_laid hL) w0 w1 w2).mono fun e W' ⟨he, bel⟩ => ?_
  subst he
  exact ⟨_, rfl, _, _, _, [], _, [], hW', trodAll_mk1 (shut_bool Tryd.underlying4 _), (trodAll_cons_mk (Below.trod laidOut (by kernel_rfl) (of_decide_eq_true (by kernel_rfl)) k0 bel lt0) (trodAll_cons_mk (shut_int Tryd.underlying3 w1) (trodAll_cons_mk (shut_int Tryd.underlying3 w2) trodAll_mk0))), rfl, bel.frame _, fun h => by cases h⟩

theorem over : Rows.CellsTellsSaid :=
  OpenClaim.holds_of_wide 3 Tryd.f3 rfl rfl rfl rfl rfl rfl rfl ⟨rfl, rfl, rfl, rfl, rfl⟩ rfl rfl rfl rfl rfl (by kernel_rfl) Tryd.func3 (by kernel_rfl)
    (of_decide_eq_true (by kernel_rfl)) (by unfold Func.isWrapper; first | (rw [if_pos (by decide +kernel)]; kernel_rfl) | (rw [if_neg (by decide +kernel)]; exact ⟨rfl, rfl⟩))
    (fun os started H enc _ => lifted os started H enc)

/-- The statement: the card. -/
theorem proved : Rows.CellsTellsCardSaid :=
  Claim7.holds_tied_plain_at .later [] [.data] true Rows.cellsTellsCard.stood.harness false
    over (fun _ h => by cases h) (by kernel_rfl) (fun _ h => by cases h) cellsTells_row_tie rfl ⟨rfl, rfl⟩ (by kernel_rfl) rfl
    (fun f fn hf hfn => by
      obtain rfl : f = 3 := Option.some.inj ((show Tryd.prog.funcNamed "ragpicker/ragpickerlaw05.CellsTells" = some 3 by kernel_rfl).symm.trans hf) |>.symm
      obtain rfl : fn = Tryd.f3 := (Option.some.inj (Tryd.func3.symm.trans hfn)).symm
      exact ⟨by kernel_rfl, fun j t ht => by
        rw [Tryd.params3] at ht
        have hm : t ∈ [22, 3, 3] := by simpa using Array.mem_of_getElem? ht
        have hall : ([22, 3, 3].all fun u => !Tryd.prog.wantsStandIn u) = true := by kernel_rfl
        exact (show Tryd.prog.wantsStandIn t = false by simpa using List.all_eq_true.1 hall t hm)⟩)
    (by kernel_rfl)
#print axioms proved
end Go.Proofs.YtlmaeppckaempaaDoor.CellsTells
