/-
  The reference's begins, and the operation whose word a text is.
-/
import Derived.Test.YtggjkagcnhhkjaaDoorCdRefB
import Derived.Test.YtggjkagcnhhkjaaDoorCdRead
import Derived.RegionTactic
namespace Go.Proofs.YtggjkagcnhhkjaaDoor.Cd
open Go.Proofs.YtggjkagcnhhkjaaDoor Go.Proofs.YtggjkagcnhhkjaaDoor.Rt
open Go.RowKit
set_option maxRecDepth 100000

/-- Does a text begin with another one? -/
def begB (S V : List UInt8) : Bool := decide (S.take V.length = V)
theorem rbeg_any (S V : List UInt8) (w : World) : Calls Tryd.prog 35 #[.string (bs S), .string (bs V)] w fun e w' => e = .returned (.bool (begB S V)) ∧ w = w' := by
  have z1 := bs_size S
  have z2 := bs_size V
  by_cases h : V.length ≤ S.length
  · have hx : (bs S).extract 0 V.length = bs (S.take V.length) := by rw [bs_extract, List.drop_zero]
    have he : ((bs (S.take V.length)).toList == (bs V).toList) = begB S V := bs_eql _ _
    generalize begB S V = b at he ⊢
    cases b with
    | true =>
      go_enter Tryd.func35, Tryd.ntmps35
      go_wp2
      go_ret
      exact ⟨rfl, rfl⟩
    | false =>
      go_enter Tryd.func35, Tryd.ntmps35
      go_wp2
      go_ret
      exact ⟨rfl, rfl⟩
  · have hb : Hid (begB S V = false) := Lib.hid (decide_eq_false (fun e => h (by
      have := congrArg List.length e
      rw [List.length_take] at this
      omega)))
    go_enter Tryd.func35, Tryd.ntmps35
    go_wp2
    go_ret
    exact ⟨by rw [hb.out]; rfl, rfl⟩
theorem beg_yes {S V : List UInt8} (h : begB S V = true) : S = V ++ S.drop V.length := by
  have h' : S.take V.length = V := of_decide_eq_true h
  have := (List.take_append_drop V.length S).symm
  rwa [h'] at this
theorem beg_no {S V r : List UInt8} (h : begB S V = false) : S ≠ V ++ r := by
  rintro rfl
  have h' : ¬ (V ++ r).take V.length = V := of_decide_eq_false h
  exact h' (by simp)
def OneOut (w : World) (wd : List UInt8) (e : Ending) (w' : World) : Prop := Below w.heap.size w w' ∧ ∃ y b, e = .returned (.tuple #[opv y, .bool b]) ∧ (b = true → may y ∧ word y = wd) ∧ (b = false → NoOp wd)
/-- No operation of a lesser kind has this word. -/
def Kinds (wd : List UInt8) (kd : Nat) : Prop := ∀ x, may x → word x = wd → (kd : Int) ≤ x.k
theorem kinds_step {wd : List UInt8} {kd : Nat} (h : Kinds wd kd) (hb : begB wd (sign (kd : Int)) = false) : Kinds wd (kd + 1) := by
  intro x hx hw
  have h1 := h x hx hw
  have hne : x.k ≠ kd := by
    intro e
    refine beg_no (r := commas ((nums x).take (many x.k))) hb ?_
    rw [← hw, ← e]
    rfl
  omega
theorem kinds_end {wd : List UInt8} (h : Kinds wd 7) : NoOp wd := by
  intro x hx hw
  have h1 := h x hx hw
  have h2 := hx.2.1
  omega
theorem byte_at (l : List UInt8) (pos : Nat) (h : pos < l.length) (w : World) : Sem.run Tryd.prog (Instr.index 9 (.string (bs l)) (.int .i64 (pos : Int))) w = .ok (.int .u8 (l[pos].toNat : Int)) w := by
  have h' : pos < (bs l).size := by rw [bs_size]; exact h
  go_simp
  rfl
/-- A word's numbers, under way. -/
structure In (w W : World) (A : Nat) (wd : List UInt8) (pos i : Nat) (kd : Nat) (f : Nat → Int) : Prop where
  res : Box W w.heap.size [.int .i64 0, .int .i64 0, .int .i64 0, .int .i64 0]
  op : Box W A [.int .i64 kd, .int .i64 0, .int .i64 0, .int .i64 0]
  num : Box W (A + 1) [.int .i64 (f 0), .int .i64 (f 1), .int .i64 (f 2), .int .i64 0]
  bel : Below w.heap.size w W
  le : pos ≤ wd.length
  at_ : i ≤ 2
  bd : ∀ j, 0 ≤ f j ∧ f j ≤ 9999
  inv : Inv wd pos i kd f
theorem num4_at {wr : World} {b : Nat} {f : Nat → Int} {z : Int} (h : Box wr b [.int .i64 (f 0), .int .i64 (f 1), .int .i64 (f 2), .int .i64 z]) {i : Nat} (hi : i ≤ 2) : wr.cell? ⟨b, i, none⟩ = some (.int .i64 (f i)) := by
  match i, hi with
  | 0, _ => exact h.cel 0 _ rfl
  | 1, _ => exact h.cel 1 _ rfl
  | 2, _ => exact h.cel 2 _ rfl
theorem num4_set {wr : World} {b : Nat} {f : Nat → Int} {z : Int} (h : Box wr b [.int .i64 (f 0), .int .i64 (f 1), .int .i64 (f 2), .int .i64 z]) {i : Nat} (hi : i ≤ 2) (v : Int) : Box (wr.setCell ⟨b, i, none⟩ (.int .i64 v)) b [.int .i64 (Ls.upd f i v 0), .int .i64 (Ls.upd f i v 1), .int .i64 (Ls.upd f i v 2), .int .i64 z] := by
  match i, hi with
  | 0, _ => exact h.set 0 _
  | 1, _ => exact h.set 1 _
  | 2, _ => exact h.set 2 _
theorem In.dig {w W : World} {A : Nat} {wd : List UInt8} {pos j kd u : Nat} {f : Nat → Int} (h : In w W A wd pos j kd f) (hp : pos < wd.length) (hu : u = (wd[pos]'hp).toNat) (h1 : 48 ≤ u) (h2 : u ≤ 57) (hf : f j < 1000) (hA : w.heap.size < A) : In w ((W.setCell ⟨A + 1, j, none⟩ (.int .i64 (10 * f j + ((u : Int) - 48)))).drew) A wd (pos + 1) j kd (Ls.upd f j (10 * f j + ((u : Int) - 48))) := by
  have hv : val (wd[pos]'hp) = (u : Int) - 48 := by unfold val; rw [hu]
  have hb := h.bd j
  refine ⟨(h.res.other (p := ⟨A + 1, j, none⟩) (by show ¬ w.heap.size = A + 1; omega) _).same rfl (Nat.le_refl _), (h.op.other (p := ⟨A + 1, j, none⟩) (by show ¬ A = A + 1; omega) _).same rfl (Nat.le_refl _), (num4_set h.num h.at_ _).same rfl (Nat.le_refl _), (h.bel.setCell (p := ⟨A + 1, j, none⟩) (by show w.heap.size ≤ A + 1; omega) _).trans ⟨rfl, rfl, rfl, Nat.le_refl _, fun _ _ => rfl⟩, hp, h.at_, fun i => ?_, ?_⟩
  · unfold Ls.upd
    split
    · omega
    · exact h.bd i
  · rw [← hv]
    exact inv_dig h.inv hp (dig_iff.2 (by rw [← hu]; exact ⟨h1, h2⟩)) hf
set_option maxHeartbeats 2000000 in
theorem one_any (wd : List UInt8) (w : World) (hs : wd.length ≤ 100000) : Calls Tryd.prog 27 #[.string (bs wd)] w (OneOut w wd) := by
  have HR0 := Lib.hid (Box.new w [.int .i64 0, .int .i64 0, .int .i64 0, .int .i64 0] 28)
  have HB0 := Lib.hid ((Below.refl _ w).alloc (Nat.le_refl _) (.cells [Value.int .i64 0, .int .i64 0, .int .i64 0, .int .i64 0].toArray 28))
  have hz := bs_size wd
  go_enter Tryd.func27, Tryd.ntmps27
  go_wp2
  go_loopw [4] (fun a wr => ∃ kd : Nat, kd ≤ 7 ∧ a = .int .i64 kd ∧ Hid (Box wr w.heap.size [.int .i64 0, .int .i64 0, .int .i64 0, .int .i64 0] ∧ Below w.heap.size w wr ∧ Kinds wd kd)) (fun a _ => 7 - (intOf a).toNat)
  case atStart => exact ⟨0, by omega, rfl, Lib.hid ⟨HR0.out, HB0.out, fun x hx _ => hx.1⟩⟩
  case round =>
    obtain ⟨kd, hkd, rfl, HI⟩ := hrel
    clear HR0 HB0
    by_cases hlt : kd < 7
    · have hk6 : 0 ≤ (kd : Int) ∧ (kd : Int) ≤ 6 := ⟨by omega, by omega⟩
      have HK := Lib.hid hk6
      have hlt' : (kd : Int) < 7 := by omega
      clear hk6
      go_wp2_with fail
      refine (rsign_any (kd : Int) _ HK.out).mono ?_
      rintro e w1 ⟨rfl, rfl⟩
      go_wp2_with fail
      refine (rbeg_any wd (sign (kd : Int)) _).mono ?_
      rintro e w1 ⟨rfl, rfl⟩
      by_cases hb : begB wd (sign (kd : Int)) = true
      · rw [hb]
        have HB := Lib.hid hb
        clear hb
        have hz2 := bs_size (sign (kd : Int))
        go_wp2
        have HX := Lib.hid (Box.new wr [.int .i64 (kd : Int), .int .i64 0, .int .i64 0, .int .i64 0] 28)
        have HN := Lib.hid (Box.new (wr.alloc (.cells #[.int .i64 (kd : Int), .int .i64 0, .int .i64 0, .int .i64 0] 28)) [.int .i64 0, .int .i64 0, .int .i64 0, .int .i64 0] 3)
        have hbw := beg_yes HB.out
        have hsl := congrArg List.length hbw
        rw [List.length_append] at hsl
        have HS : Hid (In w ((wr.alloc (.cells #[.int .i64 (kd : Int), .int .i64 0, .int .i64 0, .int .i64 0] 28)).alloc (.cells #[.int .i64 0, .int .i64 0, .int .i64 0, .int .i64 0] 3)) wr.heap.size wd (sign (kd : Int)).length 0 kd (fun _ => 0)) := by
          have nx : ∀ (W : World) (o : Obj), Below W.heap.size W (W.alloc o) := fun W o => (Below.refl _ _).alloc (Nat.le_refl _) o
          have hsz := HI.out.2.1.size
          refine Lib.hid ⟨(HI.out.1.next (nx _ _)).next (nx _ _), HX.out.next (nx _ _), ?_, (HI.out.2.1.alloc hsz _).alloc (by simp; omega) _, by omega, by omega, fun j => ⟨by omega, by omega⟩, inv_begin HK.out hbw⟩
          have := HN.out
          rw [World.size_alloc] at this
          exact this
        have hA : w.heap.size < wr.heap.size := HI.out.1.lt
        clear hsl hbw HX HN
        generalize (wr.alloc (.cells #[.int .i64 (kd : Int), .int .i64 0, .int .i64 0, .int .i64 0] 28)).alloc (.cells #[.int .i64 0, .int .i64 0, .int .i64 0, .int .i64 0] 3) = w2 at HS ⊢
        generalize wr.heap.size = A at HS hA ⊢
        go_loopw [9, 10] (fun a i W => ∃ (pos j : Nat) (f : Nat → Int), a = .int .i64 j ∧ i = .int .i64 pos ∧ Hid (In w W A wd pos j kd f)) (fun _ i _ => wd.length - (intOf i).toNat)
        case atStart => exact ⟨_, 0, fun _ => 0, rfl, rfl, HS⟩
        case round =>
          obtain ⟨pos, j, f, rfl, rfl, HW⟩ := hrel
          by_cases hp : pos < wd.length
          · have hp' : pos < (bs wd).size := by rw [bs_size]; exact hp
            have hix := fun w => byte_at wd pos hp w
            obtain ⟨u, hu⟩ : ∃ u : Nat, u = (wd[pos]'hp).toNat := ⟨_, rfl⟩
            have hu8 : u < 256 := by rw [hu]; exact (wd[pos]'hp).toNat_lt
            have HU := Lib.hid hu
            rw [← hu] at hix
            have hj2 := HW.out.at_
            have hfb := HW.out.bd j
            obtain ⟨hf0, hf9⟩ := hfb
            clear hu hp'
            by_cases hc : u = 44 ∧ j < 2
            · obtain ⟨e44, hj⟩ := hc
              have hub : ((u : Int) == 44) = true := by rw [e44]; rfl
              have hj' : (j : Int) < 2 := by omega
              have HC := Lib.hid e44
              clear e44
              go_wp2
              go_roundw
              case rel => exact ⟨pos + 1, j + 1, f, by rfl, by rfl, Lib.hid ⟨HW.out.res, HW.out.op, HW.out.num, HW.out.bel, by omega, by omega, HW.out.bd, inv_comma HW.out.inv hp (comma_iff.2 (by rw [← HU.out, HC.out])) hj⟩⟩
              case measure => simp [intOf]; omega
            · have hg : ((u : Int) == 44) = false ∨ (((u : Int) == 44) = true ∧ ¬ (j : Int) < 2) := by
                by_cases e44 : u = 44
                · exact .inr ⟨by rw [e44]; rfl, fun h => hc ⟨e44, by omega⟩⟩
                · exact .inl (by simp; omega)
              have HC := Lib.hid hc
              clear hc
              rcases hg with hub | ⟨hub, hj'⟩
              · by_cases h48 : (48 : Int) ≤ (u : Int)
                · by_cases h57 : (u : Int) ≤ 57
                  · by_cases hf : f j < 1000
                    · have q := num4_at HW.out.num hj2
                      have qf := HW.out.num.free j
                      have ql := HW.out.num.lt
                      have hj4 : (j : Int) < 4 := by omega
                      have hj0 : (0 : Int) ≤ (j : Int) := by omega
                      have hjn : j < 4 := by omega
                      go_wp2
                      go_region
                      go_wp2
                      go_roundw
                      case rel => exact ⟨pos + 1, j, _, rfl, by rfl, Lib.hid (HW.out.dig hp HU.out (by omega) (by omega) hf hA)⟩
                      case measure => simp [intOf]; omega
                    · have HNO : Hid (NoOp wd) := Lib.hid (inv_no HW.out.inv hp (fun e => HC.out ⟨by rw [HU.out, e.1]; rfl, e.2⟩) (fun e => by have := dig_iff.1 e.1; rw [← HU.out] at this; omega))
                      have q := num4_at HW.out.num hj2
                      have ql := HW.out.num.lt
                      have hj4 : (j : Int) < 4 := by omega
                      have hj0 : (0 : Int) ≤ (j : Int) := by omega
                      have hjn : j < 4 := by omega
                      have r0 := HW.out.res.cel 0 _ rfl
                      have r1 := HW.out.res.cel 1 _ rfl
                      have r2 := HW.out.res.cel 2 _ rfl
                      have r3 := HW.out.res.cel 3 _ rfl
                      have m0 := HW.out.res.free 0
                      have m1 := HW.out.res.free 1
                      have m2 := HW.out.res.free 2
                      have m3 := HW.out.res.free 3
                      have rl := HW.out.res.lt
                      go_wp2
                      have HR7 := Lib.hid ((((HW.out.res.set 0 (.int .i64 0)).set 1 (.int .i64 0)).set 2 (.int .i64 0)).set 3 (.int .i64 0))
                      have z0 := HR7.out.cel 0 _ rfl
                      have z1 := HR7.out.cel 1 _ rfl
                      have z2 := HR7.out.cel 2 _ rfl
                      have z3 := HR7.out.cel 3 _ rfl
                      refine bodyPost_ret (v := .tuple #[opv ⟨0, 0, 0, 0⟩, .bool false]) (by simp [results, Tryd.results27, go_sem, opv, z0, z1, z2, z3]) rfl ⟨?_, ⟨0, 0, 0, 0⟩, false, rfl, (by intro h; cases h), fun _ => HNO.out⟩
                      exact ((((HW.out.bel.setCell (p := ⟨w.heap.size, 0, none⟩) (Nat.le_refl _) _).setCell (p := ⟨w.heap.size, 1, none⟩) (Nat.le_refl _) _).setCell (p := ⟨w.heap.size, 2, none⟩) (Nat.le_refl _) _).setCell (p := ⟨w.heap.size, 3, none⟩) (Nat.le_refl _) _)
                  · have HNO : Hid (NoOp wd) := Lib.hid (inv_no HW.out.inv hp (fun e => HC.out ⟨by rw [HU.out, e.1]; rfl, e.2⟩) (fun e => by have := dig_iff.1 e.1; rw [← HU.out] at this; omega))
                    have r0 := HW.out.res.cel 0 _ rfl
                    have r1 := HW.out.res.cel 1 _ rfl
                    have r2 := HW.out.res.cel 2 _ rfl
                    have r3 := HW.out.res.cel 3 _ rfl
                    have m0 := HW.out.res.free 0
                    have m1 := HW.out.res.free 1
                    have m2 := HW.out.res.free 2
                    have m3 := HW.out.res.free 3
                    have rl := HW.out.res.lt
                    go_wp2
                    have HR7 := Lib.hid ((((HW.out.res.set 0 (.int .i64 0)).set 1 (.int .i64 0)).set 2 (.int .i64 0)).set 3 (.int .i64 0))
                    have z0 := HR7.out.cel 0 _ rfl
                    have z1 := HR7.out.cel 1 _ rfl
                    have z2 := HR7.out.cel 2 _ rfl
                    have z3 := HR7.out.cel 3 _ rfl
                    refine bodyPost_ret (v := .tuple #[opv ⟨0, 0, 0, 0⟩, .bool false]) (by simp [results, Tryd.results27, go_sem, opv, z0, z1, z2, z3]) rfl ⟨?_, ⟨0, 0, 0, 0⟩, false, rfl, (by intro h; cases h), fun _ => HNO.out⟩
                    exact ((((HW.out.bel.setCell (p := ⟨w.heap.size, 0, none⟩) (Nat.le_refl _) _).setCell (p := ⟨w.heap.size, 1, none⟩) (Nat.le_refl _) _).setCell (p := ⟨w.heap.size, 2, none⟩) (Nat.le_refl _) _).setCell (p := ⟨w.heap.size, 3, none⟩) (Nat.le_refl _) _)
                · have HNO : Hid (NoOp wd) := Lib.hid (inv_no HW.out.inv hp (fun e => HC.out ⟨by rw [HU.out, e.1]; rfl, e.2⟩) (fun e => by have := dig_iff.1 e.1; rw [← HU.out] at this; omega))
                  have r0 := HW.out.res.cel 0 _ rfl
                  have r1 := HW.out.res.cel 1 _ rfl
                  have r2 := HW.out.res.cel 2 _ rfl
                  have r3 := HW.out.res.cel 3 _ rfl
                  have m0 := HW.out.res.free 0
                  have m1 := HW.out.res.free 1
                  have m2 := HW.out.res.free 2
                  have m3 := HW.out.res.free 3
                  have rl := HW.out.res.lt
                  go_wp2
                  have HR7 := Lib.hid ((((HW.out.res.set 0 (.int .i64 0)).set 1 (.int .i64 0)).set 2 (.int .i64 0)).set 3 (.int .i64 0))
                  have z0 := HR7.out.cel 0 _ rfl
                  have z1 := HR7.out.cel 1 _ rfl
                  have z2 := HR7.out.cel 2 _ rfl
                  have z3 := HR7.out.cel 3 _ rfl
                  refine bodyPost_ret (v := .tuple #[opv ⟨0, 0, 0, 0⟩, .bool false]) (by simp [results, Tryd.results27, go_sem, opv, z0, z1, z2, z3]) rfl ⟨?_, ⟨0, 0, 0, 0⟩, false, rfl, (by intro h; cases h), fun _ => HNO.out⟩
                  exact ((((HW.out.bel.setCell (p := ⟨w.heap.size, 0, none⟩) (Nat.le_refl _) _).setCell (p := ⟨w.heap.size, 1, none⟩) (Nat.le_refl _) _).setCell (p := ⟨w.heap.size, 2, none⟩) (Nat.le_refl _) _).setCell (p := ⟨w.heap.size, 3, none⟩) (Nat.le_refl _) _)
              · have h44 : (u : Int) = 44 := by simpa using hub
                have h48 : ¬ (48 : Int) ≤ (u : Int) := by omega
                have HNO : Hid (NoOp wd) := Lib.hid (inv_no HW.out.inv hp (fun e => HC.out ⟨by rw [HU.out, e.1]; rfl, e.2⟩) (fun e => by have := dig_iff.1 e.1; rw [← HU.out] at this; omega))
                clear h44
                have r0 := HW.out.res.cel 0 _ rfl
                have r1 := HW.out.res.cel 1 _ rfl
                have r2 := HW.out.res.cel 2 _ rfl
                have r3 := HW.out.res.cel 3 _ rfl
                have m0 := HW.out.res.free 0
                have m1 := HW.out.res.free 1
                have m2 := HW.out.res.free 2
                have m3 := HW.out.res.free 3
                have rl := HW.out.res.lt
                go_wp2
                have HR7 := Lib.hid ((((HW.out.res.set 0 (.int .i64 0)).set 1 (.int .i64 0)).set 2 (.int .i64 0)).set 3 (.int .i64 0))
                have z0 := HR7.out.cel 0 _ rfl
                have z1 := HR7.out.cel 1 _ rfl
                have z2 := HR7.out.cel 2 _ rfl
                have z3 := HR7.out.cel 3 _ rfl
                refine bodyPost_ret (v := .tuple #[opv ⟨0, 0, 0, 0⟩, .bool false]) (by simp [results, Tryd.results27, go_sem, opv, z0, z1, z2, z3]) rfl ⟨?_, ⟨0, 0, 0, 0⟩, false, rfl, (by intro h; cases h), fun _ => HNO.out⟩
                exact ((((HW.out.bel.setCell (p := ⟨w.heap.size, 0, none⟩) (Nat.le_refl _) _).setCell (p := ⟨w.heap.size, 1, none⟩) (Nat.le_refl _) _).setCell (p := ⟨w.heap.size, 2, none⟩) (Nat.le_refl _) _).setCell (p := ⟨w.heap.size, 3, none⟩) (Nat.le_refl _) _)
          · have hpe : pos = wd.length := by have := HW.out.le; omega
            have hall : ∀ x, may x → word x = wd → x = ⟨kd, f 0, f 1, f 2⟩ := by
              have := HW.out.inv
              rw [hpe] at this
              exact inv_end this
            have HA := Lib.hid hall
            clear hall hpe
            have HB2 := Lib.hid HW.out.bel
            have HX := Lib.hid HW.out.op
            have HRS := Lib.hid HW.out.res
            have HNB := Lib.hid HW.out.num
            clear HW HS
            generalize f 0 = a at HA HNB
            generalize f 1 = b at HA HNB
            generalize f 2 = c at HA HNB
            have n0 := HNB.out.cel 0 _ rfl
            have n1 := HNB.out.cel 1 _ rfl
            have n2 := HNB.out.cel 2 _ rfl
            have nl := HNB.out.lt
            have x0 := HX.out.cel 0 _ rfl
            have x1 := HX.out.cel 1 _ rfl
            have x2 := HX.out.cel 2 _ rfl
            have x3 := HX.out.cel 3 _ rfl
            have y1 := HX.out.free 1
            have y2 := HX.out.free 2
            have y3 := HX.out.free 3
            go_wp2_with fail
            have hle : w.heap.size ≤ A := by omega
            have HX5 := Lib.hid (((HX.out.set 1 (.int .i64 a)).set 2 (.int .i64 b)).set 3 (.int .i64 c))
            have hRA : ¬ w.heap.size = A := by omega
            have HR5 := Lib.hid (((HRS.out.other (p := ⟨A, 1, none⟩) hRA (.int .i64 a)).other (p := ⟨A, 2, none⟩) hRA (.int .i64 b)).other (p := ⟨A, 3, none⟩) hRA (.int .i64 c))
            have HB5 := Lib.hid (((HB2.out.setCell (p := ⟨A, 1, none⟩) hle (.int .i64 a)).setCell (p := ⟨A, 2, none⟩) hle (.int .i64 b)).setCell (p := ⟨A, 3, none⟩) hle (.int .i64 c))
            have HWD : ∀ W, Calls Tryd.prog 11 #[.agg #[.int .i64 (kd : Int), .int .i64 a, .int .i64 b, .int .i64 c]] W (WOut W ⟨kd, a, b, c⟩) := fun W => rword_any ⟨kd, a, b, c⟩ W
            have HWW := Lib.hid HWD
            clear n0 n1 n2 nl x0 x1 x2 x3 y1 y2 y3 HX HRS HB2 HWD HNB
            generalize ((wr.setCell ⟨A, 1, none⟩ (.int .i64 a)).setCell ⟨A, 2, none⟩ (.int .i64 b)).setCell ⟨A, 3, none⟩ (.int .i64 c) = w5 at HX5 HR5 HB5 ⊢
            refine (HWW.out _).mono ?_
            rintro e w6 ⟨rfl, hb6⟩
            have HX6 := Lib.hid (HX5.out.next hb6)
            have HR6 := Lib.hid (HR5.out.next hb6)
            have HB6 := Lib.hid (HB5.out.trans (hb6.mono HB5.out.size))
            clear hb6 HX5 HR5 HB5 HWW
            have z0 := HX6.out.cel 0 _ rfl
            have z1 := HX6.out.cel 1 _ rfl
            have z2 := HX6.out.cel 2 _ rfl
            have z3 := HX6.out.cel 3 _ rfl
            have zl := HX6.out.lt
            have r0 := HR6.out.cel 0 _ rfl
            have r1 := HR6.out.cel 1 _ rfl
            have r2 := HR6.out.cel 2 _ rfl
            have r3 := HR6.out.cel 3 _ rfl
            have m0 := HR6.out.free 0
            have m1 := HR6.out.free 1
            have m2 := HR6.out.free 2
            have m3 := HR6.out.free 3
            have rl := HR6.out.lt
            have HR7 := Lib.hid ((((HR6.out.set 0 (.int .i64 (kd : Int))).set 1 (.int .i64 a)).set 2 (.int .i64 b)).set 3 (.int .i64 c))
            have HB7 := Lib.hid ((((HB6.out.setCell (p := ⟨w.heap.size, 0, none⟩) (Nat.le_refl _) (.int .i64 (kd : Int))).setCell (p := ⟨w.heap.size, 1, none⟩) (Nat.le_refl _) (.int .i64 a)).setCell (p := ⟨w.heap.size, 2, none⟩) (Nat.le_refl _) (.int .i64 b)).setCell (p := ⟨w.heap.size, 3, none⟩) (Nat.le_refl _) (.int .i64 c))
            by_cases hmy : may ⟨kd, a, b, c⟩
            · have HM := Lib.hid hmy
              rw [(word_yes hmy).1, (word_yes hmy).2]
              clear hmy
              by_cases hw : word ⟨kd, a, b, c⟩ = wd
              · rw [hw]
                have HW := Lib.hid hw
                clear hw
                go_wp2
                have c0 := HR7.out.cel 0 _ rfl
                have c1 := HR7.out.cel 1 _ rfl
                have c2 := HR7.out.cel 2 _ rfl
                have c3 := HR7.out.cel 3 _ rfl
                exact bodyPost_ret (v := .tuple #[opv ⟨kd, a, b, c⟩, .bool true]) (by simp [results, Tryd.results27, go_sem, opv, c0, c1, c2, c3]) rfl ⟨HB7.out, ⟨kd, a, b, c⟩, true, rfl, fun _ => ⟨HM.out, HW.out⟩, (by intro h; cases h)⟩
              · have hnb : ((bs (word ⟨kd, a, b, c⟩)).toList == (bs wd).toList) = false := by rw [bs_eql]; exact decide_eq_false hw
                have HN := Lib.hid (noop_end HA.out (fun h => hw h.2))
                clear hw
                go_wp2
                have c0 := HR7.out.cel 0 _ rfl
                have c1 := HR7.out.cel 1 _ rfl
                have c2 := HR7.out.cel 2 _ rfl
                have c3 := HR7.out.cel 3 _ rfl
                exact bodyPost_ret (v := .tuple #[opv ⟨kd, a, b, c⟩, .bool false]) (by simp [results, Tryd.results27, go_sem, opv, c0, c1, c2, c3]) rfl ⟨HB7.out, ⟨kd, a, b, c⟩, false, rfl, (by intro h; cases h), fun _ => HN.out⟩
            · rw [(word_no hmy).1, (word_no hmy).2]
              have HN := Lib.hid (noop_end HA.out (fun h => hmy h.1))
              clear hmy
              go_wp2
              have c0 := HR7.out.cel 0 _ rfl
              have c1 := HR7.out.cel 1 _ rfl
              have c2 := HR7.out.cel 2 _ rfl
              have c3 := HR7.out.cel 3 _ rfl
              exact bodyPost_ret (v := .tuple #[opv ⟨kd, a, b, c⟩, .bool false]) (by simp [results, Tryd.results27, go_sem, opv, c0, c1, c2, c3]) rfl ⟨HB7.out, ⟨kd, a, b, c⟩, false, rfl, (by intro h; cases h), fun _ => HN.out⟩
      · have hb' : begB wd (sign (kd : Int)) = false := by simpa using hb
        rw [hb']
        have HB := Lib.hid hb'
        clear hb hb'
        go_wp2
        go_roundw
        case rel => exact ⟨kd + 1, by omega, by rfl, Lib.hid ⟨HI.out.1, HI.out.2.1, kinds_step HI.out.2.2 HB.out⟩⟩
        case measure => simp [intOf]; omega
    · obtain rfl : kd = 7 := by omega
      have r0 := HI.out.1.cel 0 _ rfl
      have r1 := HI.out.1.cel 1 _ rfl
      have r2 := HI.out.1.cel 2 _ rfl
      have r3 := HI.out.1.cel 3 _ rfl
      have m0 := HI.out.1.free 0
      have m1 := HI.out.1.free 1
      have m2 := HI.out.1.free 2
      have m3 := HI.out.1.free 3
      have rl := HI.out.1.lt
      go_wp2
      have HR7 := Lib.hid ((((HI.out.1.set 0 (.int .i64 0)).set 1 (.int .i64 0)).set 2 (.int .i64 0)).set 3 (.int .i64 0))
      have c0 := HR7.out.cel 0 _ rfl
      have c1 := HR7.out.cel 1 _ rfl
      have c2 := HR7.out.cel 2 _ rfl
      have c3 := HR7.out.cel 3 _ rfl
      refine bodyPost_ret (v := .tuple #[opv ⟨0, 0, 0, 0⟩, .bool false]) (by simp [results, Tryd.results27, go_sem, opv, c0, c1, c2, c3]) rfl ⟨?_, ⟨0, 0, 0, 0⟩, false, rfl, (by intro h; cases h), fun _ => kinds_end HI.out.2.2⟩
      exact ((((HI.out.2.1.setCell (p := ⟨w.heap.size, 0, none⟩) (Nat.le_refl _) _).setCell (p := ⟨w.heap.size, 1, none⟩) (Nat.le_refl _) _).setCell (p := ⟨w.heap.size, 2, none⟩) (Nat.le_refl _) _).setCell (p := ⟨w.heap.size, 3, none⟩) (Nat.le_refl _) _)
end Go.Proofs.YtggjkagcnhhkjaaDoor.Cd
