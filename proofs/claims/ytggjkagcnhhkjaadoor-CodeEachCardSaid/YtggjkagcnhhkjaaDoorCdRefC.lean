/-
  The reference's Write and Same.
-/
import Derived.Test.YtggjkagcnhhkjaaDoorCdRefB
import Derived.Test.YtggjkagcnhhkjaaDoorCdWrite
namespace Go.Proofs.YtggjkagcnhhkjaaDoor.Cd
open Go.Proofs.YtggjkagcnhhkjaaDoor Go.Proofs.YtggjkagcnhhkjaaDoor.Rt
open Go.RowKit
set_option maxRecDepth 100000

theorem write_snoc {l : List O4} (h : l ≠ []) (x : O4) : write (l ++ [x]) = (write l ++ [32]) ++ word x := by
  rw [write_append h (by simp)]
  simp [write]
theorem rwrite_long (a : Option Addr) (l : List O4) (c : Nat) (w : World) (h : 200 < l.length) (hn : l.length ≤ maxLen) : Calls Tryd.prog 15 #[.slice a l.length c] w (WrOut w l) := by
  have HW := Lib.hid (write_long h)
  unfold maxLen at hn
  generalize l.length = n at h hn ⊢
  go_enter Tryd.func15, Tryd.ntmps15
  go_wp2
  go_ret2
  exact ⟨by rw [HW.out.1, HW.out.2]; rfl, Below.refl _ _⟩
set_option maxHeartbeats 1000000 in
theorem rwrite_short (a : Option Addr) (l : List O4) (c : Nat) (w : World) (h : l.length ≤ 200) (hr : ORow w w.heap.size a l.length (gl l)) : Calls Tryd.prog 15 #[.slice a l.length c] w (WrOut w l) := by
  have HR := Lib.hid hr
  obtain ⟨n, hn⟩ : ∃ n, n = l.length := ⟨_, rfl⟩
  have HN := Lib.hid hn
  rw [← hn] at h ⊢
  clear hr hn
  go_enter Tryd.func15, Tryd.ntmps15
  go_wp2
  go_loopw [4, 5] (fun u i wr => ∃ m : Nat, m ≤ n ∧ i = .int .i64 m ∧ u = .string (bs (write (l.take m))) ∧ Hid (Below w.heap.size w wr ∧ AllMay (l.take m))) (fun _ i _ => 201 - (intOf i).toNat)
  case atStart => exact ⟨0, by omega, rfl, rfl, Lib.hid ⟨Below.refl _ _, fun x hx => by simp at hx⟩⟩
  case round =>
    obtain ⟨m, hm, rfl, rfl, HI⟩ := hrel
    by_cases hlt : m < n
    · obtain ⟨b, off, rfl, hbB, hcs⟩ := HR.out (by rw [← HN.out]; omega)
      obtain ⟨q0, q1, q2, q3⟩ := hcs m (by rw [← HN.out]; exact hlt)
      have hx : gl l m = l[m]'(by rw [← HN.out]; exact hlt) := gl_at _
      rw [hx] at q0 q1 q2 q3
      have htk : l.take (m + 1) = l.take m ++ [l[m]'(by rw [← HN.out]; exact hlt)] := by rw [List.take_succ_eq_append_getElem (by rw [← HN.out]; exact hlt)]
      have hmem : l[m]'(by rw [← HN.out]; exact hlt) ∈ l := List.getElem_mem _
      generalize l[m]'(by rw [← HN.out]; exact hlt) = x at q0 q1 q2 q3 htk hmem
      have c0 : wr.cell? ⟨b, off + m * 4, none⟩ = some (.int .i64 x.k) := (HI.out.1.cell (p := ⟨b, off + m * 4, none⟩) hbB).trans q0
      have c1 : wr.cell? ⟨b, off + m * 4 + 1, none⟩ = some (.int .i64 x.a) := (HI.out.1.cell (p := ⟨b, off + m * 4 + 1, none⟩) hbB).trans q1
      have c2 : wr.cell? ⟨b, off + m * 4 + 2, none⟩ = some (.int .i64 x.b) := (HI.out.1.cell (p := ⟨b, off + m * 4 + 2, none⟩) hbB).trans q2
      have c3 : wr.cell? ⟨b, off + m * 4 + 3, none⟩ = some (.int .i64 x.c) := (HI.out.1.cell (p := ⟨b, off + m * 4 + 3, none⟩) hbB).trans q3
      have hbl : b < wr.heap.size := Nat.lt_of_lt_of_le hbB HI.out.1.size
      have HC : ∀ W, Calls Tryd.prog 11 #[.agg #[.int .i64 x.k, .int .i64 x.a, .int .i64 x.b, .int .i64 x.c]] W (WOut W x) := fun W => rword_any x W
      have HX := Lib.hid (And.intro HC (And.intro htk hmem))
      have hlm : (l.take m).length = m := by rw [List.length_take, ← HN.out]; omega
      have hwl := write_len (l.take m)
      rw [hlm] at hwl
      have hxl := word_len x
      clear q0 q1 q2 q3 hcs hx HC htk hmem
      go_wp2_with fail
      refine (HX.out.1 _).mono ?_
      rintro e w1 ⟨rfl, hb1⟩
      clear c0 c1 c2 c3 hbl
      have H1 := Lib.hid (HI.out.1.trans (hb1.mono HI.out.1.size))
      clear hb1
      by_cases hmy : may x
      · have HM := Lib.hid (And.intro (word_yes hmy) hmy)
        rw [HM.out.1.1, HM.out.1.2]
        clear hmy
        have hall : AllMay (l.take (m + 1)) := by
          rw [HX.out.2.1]
          intro y hy
          rcases List.mem_append.1 hy with h1 | h1
          · exact HI.out.2 y h1
          · rw [List.mem_singleton.1 h1]
            exact HM.out.2
        have HA := Lib.hid hall
        clear hall
        obtain ⟨t0, ht0⟩ : ∃ t, t = write (l.take m) := ⟨_, rfl⟩
        obtain ⟨t1, ht1⟩ : ∃ t, t = write (l.take (m + 1)) := ⟨_, rfl⟩
        have HE0 := Lib.hid ht0
        have HE1 := Lib.hid ht1
        rw [← ht0] at hwl ⊢
        clear ht0 ht1
        by_cases h0 : m = 0
        · subst h0
          have hadd : ∀ w, (Op.stringOp .add (bs t0) (bs (word x))).run Tryd.prog w = .ok (.string (bs t1)) w := fun w => by
            have e : t1 = t0 ++ word x := by
              rw [HE1.out, HE0.out, HX.out.2.1]
              simp [write]
            rw [e]
            exact add_bs _ _ w (by omega) (by omega)
          clear hwl hlm
          go_wp2
          go_roundw
          case rel => exact ⟨1, by omega, by rfl, by rw [HE1.out], Lib.hid ⟨H1.out, HA.out⟩⟩
          case measure => simp [intOf]
        · have hm0 : (0 : Int) < (m : Int) := by omega
          have hcm : ∀ w, (Op.stringOp .add (bs t0) { data := #[32] }).run Tryd.prog w = .ok (.string (bs (t0 ++ [32]))) w := fun w => add_bs _ [32] w (by omega) (by simp)
          have hadd : ∀ w, (Op.stringOp .add (bs (t0 ++ [32])) (bs (word x))).run Tryd.prog w = .ok (.string (bs t1)) w := fun w => by
            have hne : l.take m ≠ [] := fun e => h0 (by rw [e] at hlm; exact hlm.symm)
            rw [HE1.out, HX.out.2.1, write_snoc hne, ← HE0.out]
            exact add_bs _ _ w (by rw [List.length_append]; simp; omega) (by omega)
          clear hwl hlm
          go_wp2
          go_roundw
          case rel => exact ⟨m + 1, by omega, by rfl, by rw [HE1.out], Lib.hid ⟨H1.out, HA.out⟩⟩
          case measure => simp [intOf]; omega
      · have HM := Lib.hid (And.intro (word_no hmy) hmy)
        rw [HM.out.1.1, HM.out.1.2]
        clear hmy
        have HW := Lib.hid (write_no (l := l) (by rw [← HN.out]; exact h) (fun ha => HM.out.2 (ha x HX.out.2.2)))
        go_wp2
        go_ret2
        exact ⟨by rw [HW.out.1, HW.out.2]; rfl, H1.out⟩
    · obtain rfl : m = n := by omega
      have hall : AllMay l := by
        have := HI.out.2
        rwa [HN.out, List.take_length] at this
      have HW := Lib.hid (write_yes (by rw [← HN.out]; exact h) hall)
      have HE : Hid (write (l.take m) = write l) := Lib.hid (by rw [HN.out, List.take_length])
      go_wp2
      go_ret2
      exact ⟨by rw [HW.out.1, HW.out.2, HE.out]; rfl, HI.out.1⟩
theorem rwrite_any (a : Option Addr) (l : List O4) (c : Nat) (w : World) (hn : l.length ≤ maxLen) (hr : ORow w w.heap.size a l.length (gl l)) : Calls Tryd.prog 15 #[.slice a l.length c] w (WrOut w l) := by
  by_cases h : 200 < l.length
  · exact rwrite_long a l c w h hn
  · exact rwrite_short a l c w (by omega) hr
end Go.Proofs.YtggjkagcnhhkjaaDoor.Cd
