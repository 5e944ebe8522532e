/-
  CardsAll: all objects begin on just one card each; by the next one, from none on, just the old ones of a card are told: for every heap of at most 9 pages and 130 words; the table of sizes is tied to the program's text by the card.
-/
import Derived.Test.YtmalopciboikhaaDoorHpCG
import Derived.Test.YtmalopciboikhaaDoorHpCH
import Derived.Test.YtmalopciboikhaaDoorHpCI
namespace Go.Proofs.YtmalopciboikhaaDoor.CardsAll
open Go.Proofs.YtmalopciboikhaaDoor Go.Proofs.YtmalopciboikhaaDoor.Ck
open Go.ChangeShapes Go.WideShapes Go.ChangeAt Go.RowKit
set_option maxRecDepth 100000

section
variable (s : Hs) (d : Hd_) (k : Int) (w : World)
set_option maxHeartbeats 1000000 in
theorem walk_few (hf : fewH s = false) (hz : Cl.Sz w) (hp : Hp w w.heap.size s d) : Calls Tryd.prog 4 #[(.agg #[.slice s.w.a s.w.n s.w.c, .slice s.p.a s.p.n s.p.c, .slice (s.u 0).a (s.u 0).n (s.u 0).c, .slice (s.u 1).a (s.u 1).n (s.u 1).c, .slice (s.u 2).a (s.u 2).n (s.u 2).c, .slice s.c.a s.c.n s.c.c]), .int .i64 k] w fun e w' => e = .returned (.bool true) ∧ Below w.heap.size w w' := by
  have HZ := Lib.hid hz
  have hz0 := hz.pos
  have HP := Lib.hid hp
  have HF := Lib.hid hf
  clear hz hp hf
  go_enter Tryd.func4, Tryd.ntmps4
  go_wp2_with fail
  obtain ⟨W1, hW1⟩ : ∃ W1, W1 = w.alloc (.cells #[.slice s.w.a s.w.n s.w.c, .slice s.p.a s.p.n s.p.c, .slice (s.u 0).a (s.u 0).n (s.u 0).c, .slice (s.u 1).a (s.u 1).n (s.u 1).c, .slice (s.u 2).a (s.u 2).n (s.u 2).c, .slice s.c.a s.c.n s.c.c] 28) := ⟨_, rfl⟩
  have L1 := Lib.hid (lx_start (A := none) (n := 0) (U := (fun _ => Ls.noSl)) (F := noCaches) HP.out (fun h => absurd h (by omega)) hW1)
  rw [← hW1]
  clear hW1
  refine (Ck.awake_any W1 (HZ.out.over L1.out.bel hz0)).mono ?_
  rintro e9 w1 ⟨rfl, hb1⟩
  have L2 := Lib.hid (L1.out.next hb1)
  clear hb1 L1
  have q0 := (L2.out.at (w.heap.size) (s) (d) (by simp)).c0
  have q1 := (L2.out.at (w.heap.size) (s) (d) (by simp)).c1
  have q2 := (L2.out.at (w.heap.size) (s) (d) (by simp)).c2
  have q3 := (L2.out.at (w.heap.size) (s) (d) (by simp)).c3
  have q4 := (L2.out.at (w.heap.size) (s) (d) (by simp)).c4
  have q5 := (L2.out.at (w.heap.size) (s) (d) (by simp)).c5
  have ql := (L2.out.at (w.heap.size) (s) (d) (by simp)).lt
  go_wp2_with fail
  refine (rfew_any s w1).mono ?_
  rw [HF.out]
  rintro e9 w2 ⟨rfl, hb2⟩
  have L3 := Lib.hid (L2.out.next hb2)
  clear hb2 L2
  clear q0 q1 q2 q3 q4 q5 ql
  go_wp2
  go_ret
  exact ⟨rfl, L3.out.bel⟩
set_option maxHeartbeats 1000000 in
theorem walk_may (hf : fewH s = true) (hM : ∀ W, Lx w W none 0 (fun _ => Ls.noSl) noCaches [(w.heap.size, s, d)] → Calls Tryd.prog 15 #[(.agg #[.slice s.w.a s.w.n s.w.c, .slice s.p.a s.p.n s.p.c, .slice (s.u 0).a (s.u 0).n (s.u 0).c, .slice (s.u 1).a (s.u 1).n (s.u 1).c, .slice (s.u 2).a (s.u 2).n (s.u 2).c, .slice s.c.a s.c.n s.c.c]), .slice none 0 0] W fun e w' => e = .returned (.bool false) ∧ Below W.heap.size W w') (hz : Cl.Sz w) (hp : Hp w w.heap.size s d) : Calls Tryd.prog 4 #[(.agg #[.slice s.w.a s.w.n s.w.c, .slice s.p.a s.p.n s.p.c, .slice (s.u 0).a (s.u 0).n (s.u 0).c, .slice (s.u 1).a (s.u 1).n (s.u 1).c, .slice (s.u 2).a (s.u 2).n (s.u 2).c, .slice s.c.a s.c.n s.c.c]), .int .i64 k] w fun e w' => e = .returned (.bool true) ∧ Below w.heap.size w w' := by
  have HZ := Lib.hid hz
  have hz0 := hz.pos
  have HP := Lib.hid hp
  have HF := Lib.hid hf
  have MX := Lib.hid hM
  clear hz hp hf hM
  go_enter Tryd.func4, Tryd.ntmps4
  go_wp2_with fail
  obtain ⟨W1, hW1⟩ : ∃ W1, W1 = w.alloc (.cells #[.slice s.w.a s.w.n s.w.c, .slice s.p.a s.p.n s.p.c, .slice (s.u 0).a (s.u 0).n (s.u 0).c, .slice (s.u 1).a (s.u 1).n (s.u 1).c, .slice (s.u 2).a (s.u 2).n (s.u 2).c, .slice s.c.a s.c.n s.c.c] 28) := ⟨_, rfl⟩
  have L1 := Lib.hid (lx_start (A := none) (n := 0) (U := (fun _ => Ls.noSl)) (F := noCaches) HP.out (fun h => absurd h (by omega)) hW1)
  rw [← hW1]
  clear hW1
  refine (Ck.awake_any W1 (HZ.out.over L1.out.bel hz0)).mono ?_
  rintro e9 w1 ⟨rfl, hb1⟩
  have L2 := Lib.hid (L1.out.next hb1)
  clear hb1 L1
  have q0 := (L2.out.at (w.heap.size) (s) (d) (by simp)).c0
  have q1 := (L2.out.at (w.heap.size) (s) (d) (by simp)).c1
  have q2 := (L2.out.at (w.heap.size) (s) (d) (by simp)).c2
  have q3 := (L2.out.at (w.heap.size) (s) (d) (by simp)).c3
  have q4 := (L2.out.at (w.heap.size) (s) (d) (by simp)).c4
  have q5 := (L2.out.at (w.heap.size) (s) (d) (by simp)).c5
  have ql := (L2.out.at (w.heap.size) (s) (d) (by simp)).lt
  go_wp2_with fail
  refine (rfew_any s w1).mono ?_
  rw [HF.out]
  rintro e9 w2 ⟨rfl, hb2⟩
  have L3 := Lib.hid (L2.out.next hb2)
  clear hb2 L2
  clear q0 q1 q2 q3 q4 q5 ql
  have q0 := (L3.out.at (w.heap.size) (s) (d) (by simp)).c0
  have q1 := (L3.out.at (w.heap.size) (s) (d) (by simp)).c1
  have q2 := (L3.out.at (w.heap.size) (s) (d) (by simp)).c2
  have q3 := (L3.out.at (w.heap.size) (s) (d) (by simp)).c3
  have q4 := (L3.out.at (w.heap.size) (s) (d) (by simp)).c4
  have q5 := (L3.out.at (w.heap.size) (s) (d) (by simp)).c5
  have ql := (L3.out.at (w.heap.size) (s) (d) (by simp)).lt
  go_wp2_with fail
  refine (MX.out w2 L3.out).mono ?_
  rintro e9 w3 ⟨rfl, hb9⟩
  have L4 := Lib.hid (L3.out.next hb9)
  clear hb9 L3
  clear q0 q1 q2 q3 q4 q5 ql
  go_wp2
  go_ret
  exact ⟨rfl, L4.out.bel⟩
set_option maxHeartbeats 8000000 in
theorem core (us xs ys : List Int) (od : Int → Bool) (hys : ys = xs.filter od) (hus : us.Pairwise (· < ·)) (hu0 : ∀ a ∈ us, 16 ≤ a) (hu1 : upN us s.c.n = us) (hul : us.length ≤ 512) (hxl : xs.length ≤ 8) (hyl : ys.length ≤ 8) (hcn : s.c.n ≤ 20) (hf : fewH s = true) (hM : ∀ W, Lx w W none 0 (fun _ => Ls.noSl) noCaches [(w.heap.size, s, d)] → Calls Tryd.prog 15 #[(.agg #[.slice s.w.a s.w.n s.w.c, .slice s.p.a s.p.n s.p.c, .slice (s.u 0).a (s.u 0).n (s.u 0).c, .slice (s.u 1).a (s.u 1).n (s.u 1).c, .slice (s.u 2).a (s.u 2).n (s.u 2).c, .slice s.c.a s.c.n s.c.c]), .slice none 0 0] W fun e w' => e = .returned (.bool true) ∧ Below W.heap.size W w') (hO : ∀ W (q : Nat), q < s.c.n → Lx w W none 0 (fun _ => Ls.noSl) noCaches [(w.heap.size, s, d)] → Calls Tryd.prog 16 #[(.agg #[.slice s.w.a s.w.n s.w.c, .slice s.p.a s.p.n s.p.c, .slice (s.u 0).a (s.u 0).n (s.u 0).c, .slice (s.u 1).a (s.u 1).n (s.u 1).c, .slice (s.u 2).a (s.u 2).n (s.u 2).c, .slice s.c.a s.c.n s.c.c]), .int .i64 (q : Int)] W (Ls.AllOut W (us.filter fun a => decide ((a - 16) / 8 = (q : Int))))) (hK : ∀ W, Lx w W none 0 (fun _ => Ls.noSl) noCaches [(w.heap.size, s, d)] → Calls Tryd.prog 16 #[(.agg #[.slice s.w.a s.w.n s.w.c, .slice s.p.a s.p.n s.p.c, .slice (s.u 0).a (s.u 0).n (s.u 0).c, .slice (s.u 1).a (s.u 1).n (s.u 1).c, .slice (s.u 2).a (s.u 2).n (s.u 2).c, .slice s.c.a s.c.n s.c.c]), .int .i64 k] W (Ls.AllOut W xs)) (hN0 : ∀ W, Lx w W none 0 (fun _ => Ls.noSl) noCaches [(w.heap.size, s, d)] → Calls Tryd.prog 17 #[(.agg #[.slice s.w.a s.w.n s.w.c, .slice s.p.a s.p.n s.p.c, .slice (s.u 0).a (s.u 0).n (s.u 0).c, .slice (s.u 1).a (s.u 1).n (s.u 1).c, .slice (s.u 2).a (s.u 2).n (s.u 2).c, .slice s.c.a s.c.n s.c.c]), .int .i64 k, .int .i64 0] W fun e w' => e = .returned (.tuple #[.int .i64 (ys.getD 0 0), .bool (decide (0 < ys.length))]) ∧ Below W.heap.size W w') (hN1 : ∀ W (j : Nat), j < ys.length → Lx w W none 0 (fun _ => Ls.noSl) noCaches [(w.heap.size, s, d)] → Calls Tryd.prog 17 #[(.agg #[.slice s.w.a s.w.n s.w.c, .slice s.p.a s.p.n s.p.c, .slice (s.u 0).a (s.u 0).n (s.u 0).c, .slice (s.u 1).a (s.u 1).n (s.u 1).c, .slice (s.u 2).a (s.u 2).n (s.u 2).c, .slice s.c.a s.c.n s.c.c]), .int .i64 k, .int .i64 (ys.getD j 0)] W fun e w' => e = .returned (.tuple #[.int .i64 (ys.getD (j + 1) 0), .bool (decide ((j + 1) < ys.length))]) ∧ Below W.heap.size W w') (hH : ∀ y, y ∈ xs → ∃ (u e : Bool) (n b m : Int), ∀ W, Lx w W none 0 (fun _ => Ls.noSl) noCaches [(w.heap.size, s, d)] → Calls Tryd.prog 18 #[(.agg #[.slice s.w.a s.w.n s.w.c, .slice s.p.a s.p.n s.p.c, .slice (s.u 0).a (s.u 0).n (s.u 0).c, .slice (s.u 1).a (s.u 1).n (s.u 1).c, .slice (s.u 2).a (s.u 2).n (s.u 2).c, .slice s.c.a s.c.n s.c.c]), .int .i64 y] W (HeadOut W (.agg #[.bool u, .bool (od y), .bool e, .int .i64 n, .int .i64 b, .int .i64 m]) 0)) (hU : ∀ W, Lx w W none 0 (fun _ => Ls.noSl) noCaches [(w.heap.size, s, d)] → Calls Tryd.prog 19 #[(.agg #[.slice s.w.a s.w.n s.w.c, .slice s.p.a s.p.n s.p.c, .slice (s.u 0).a (s.u 0).n (s.u 0).c, .slice (s.u 1).a (s.u 1).n (s.u 1).c, .slice (s.u 2).a (s.u 2).n (s.u 2).c, .slice s.c.a s.c.n s.c.c])] W (Ls.AllOut W us)) (hz : Cl.Sz w) (hp : Hp w w.heap.size s d) : Calls Tryd.prog 4 #[(.agg #[.slice s.w.a s.w.n s.w.c, .slice s.p.a s.p.n s.p.c, .slice (s.u 0).a (s.u 0).n (s.u 0).c, .slice (s.u 1).a (s.u 1).n (s.u 1).c, .slice (s.u 2).a (s.u 2).n (s.u 2).c, .slice s.c.a s.c.n s.c.c]), .int .i64 k] w fun e w' => e = .returned (.bool true) ∧ Below w.heap.size w w' := by
  have HZ := Lib.hid hz
  have hz0 := hz.pos
  have HP := Lib.hid hp
  have HF := Lib.hid hf
  have MX := Lib.hid hM
  have OX := Lib.hid hO
  have KX := Lib.hid hK
  have N0X := Lib.hid hN0
  have N1X := Lib.hid hN1
  have HX := Lib.hid hH
  have UX := Lib.hid hU
  have YSX := Lib.hid hys
  have USX := Lib.hid hus
  have U1X := Lib.hid hu1
  have UZX := Lib.hid (upN_zero hu0)
  clear hz hp hf hu0 hM hO hK hN0 hN1 hH hU hys hus hu1
  obtain ⟨cn, hcne⟩ : ∃ cn, cn = s.c.n := ⟨_, rfl⟩
  have CN := Lib.hid hcne
  rw [← hcne] at hcn
  clear hcne
  go_enter Tryd.func4, Tryd.ntmps4
  go_wp2_with fail
  obtain ⟨W1, hW1⟩ : ∃ W1, W1 = w.alloc (.cells #[.slice s.w.a s.w.n s.w.c, .slice s.p.a s.p.n s.p.c, .slice (s.u 0).a (s.u 0).n (s.u 0).c, .slice (s.u 1).a (s.u 1).n (s.u 1).c, .slice (s.u 2).a (s.u 2).n (s.u 2).c, .slice s.c.a s.c.n s.c.c] 28) := ⟨_, rfl⟩
  have L1 := Lib.hid (lx_start (A := none) (n := 0) (U := (fun _ => Ls.noSl)) (F := noCaches) HP.out (fun h => absurd h (by omega)) hW1)
  rw [← hW1]
  clear hW1
  refine (Ck.awake_any W1 (HZ.out.over L1.out.bel hz0)).mono ?_
  rintro e9 w1 ⟨rfl, hb1⟩
  have L2 := Lib.hid (L1.out.next hb1)
  clear hb1 L1
  have q0 := (L2.out.at (w.heap.size) (s) (d) (by simp)).c0
  have q1 := (L2.out.at (w.heap.size) (s) (d) (by simp)).c1
  have q2 := (L2.out.at (w.heap.size) (s) (d) (by simp)).c2
  have q3 := (L2.out.at (w.heap.size) (s) (d) (by simp)).c3
  have q4 := (L2.out.at (w.heap.size) (s) (d) (by simp)).c4
  have q5 := (L2.out.at (w.heap.size) (s) (d) (by simp)).c5
  have ql := (L2.out.at (w.heap.size) (s) (d) (by simp)).lt
  go_wp2_with fail
  refine (rfew_any s w1).mono ?_
  rw [HF.out]
  rintro e9 w2 ⟨rfl, hb2⟩
  have L3 := Lib.hid (L2.out.next hb2)
  clear hb2 L2
  clear q0 q1 q2 q3 q4 q5 ql
  have q0 := (L3.out.at (w.heap.size) (s) (d) (by simp)).c0
  have q1 := (L3.out.at (w.heap.size) (s) (d) (by simp)).c1
  have q2 := (L3.out.at (w.heap.size) (s) (d) (by simp)).c2
  have q3 := (L3.out.at (w.heap.size) (s) (d) (by simp)).c3
  have q4 := (L3.out.at (w.heap.size) (s) (d) (by simp)).c4
  have q5 := (L3.out.at (w.heap.size) (s) (d) (by simp)).c5
  have ql := (L3.out.at (w.heap.size) (s) (d) (by simp)).lt
  go_wp2_with fail
  refine (MX.out w2 L3.out).mono ?_
  rintro e9 w3 ⟨rfl, hb9⟩
  have L4 := Lib.hid (L3.out.next hb9)
  clear hb9 L3
  clear q0 q1 q2 q3 q4 q5 ql
  go_wp2
  go_loopw [7, 8] (fun o i wr => ∃ (t : Ls.Sl) (q : Nat), q ≤ cn ∧ o = .slice t.a t.n t.c ∧ i = .int .i64 q ∧ Hid (Ls.Alling w3 wr t (upN us q))) (fun _ i _ => cn - (intOf i).toNat)
  case atStart => exact ⟨⟨none, 0, 0⟩, 0, Nat.zero_le _, rfl, rfl, Lib.hid ⟨by rw [UZX.out]; exact World.ownsRow_nil _ _ _ _, Below.refl _ _⟩⟩
  case round =>
    obtain ⟨t, q, hq, rfl, rfl, HA⟩ := hrel
    have LA := Lib.hid (L4.out.next HA.out.bel)
    have q5 := (LA.out.at (w.heap.size) s d (by simp)).c5
    have ql := (LA.out.at (w.heap.size) s d (by simp)).lt
    by_cases hlt : q < cn
    · have HO := Lib.hid (OX.out wr q (by have := CN.out; omega) LA.out)
      have HS := Lib.hid (upN_next USX.out q)
      have htn : t.n + (us.filter fun a => decide ((a - 16) / 8 = (q : Int))).length ≤ 4000000 := by
        have h1 := HA.out.len
        have h2 : (upN us q).length ≤ us.length := List.length_filter_le _ _
        have h3 : (us.filter fun a => decide ((a - 16) / 8 = (q : Int))).length ≤ us.length := List.length_filter_le _ _
        omega
      have i1 : (q : Int) < s.c.n := by have := CN.out; omega
      have i2 : decide ((q : Int) < s.c.n) = true := decide_eq_true i1
      have i3 : decide (q < s.c.n) = true := decide_eq_true (by have := CN.out; omega)
      have q0 := (LA.out.at (w.heap.size) s d (by simp)).c0
      have q1 := (LA.out.at (w.heap.size) s d (by simp)).c1
      have q2 := (LA.out.at (w.heap.size) s d (by simp)).c2
      have q3 := (LA.out.at (w.heap.size) s d (by simp)).c3
      have q4 := (LA.out.at (w.heap.size) s d (by simp)).c4
      generalize (us.filter fun a => decide ((a - 16) / 8 = (q : Int))) = zs at HO HS htn
      go_wp2_with fail
      refine HO.out.mono ?_
      rintro e w5 ⟨v5, rfl, ho5, hb5⟩
      have hv5 : v5.n = zs.length := by have h1 := ho5.1; simpa using h1.symm
      have A5 := Lib.hid (And.intro (all_next HA.out hb5) (row_of ho5))
      have htn5 : t.n + v5.n ≤ 4000000 := by omega
      clear ho5 hb5 HO q0 q1 q2 q3 q4 q5 ql hv5 htn i1 i2 i3
      go_wp2_with (at_builtin; refine Ls.list_cat rfl _ _ rfl rfl rfl A5.out.1.own A5.out.2 A5.out.1.bel.size htn5 ?_)
      intro p' cp' w6 hcat
      have hA6 := A5.out.1.cat hcat
      rw [← HS.out] at hA6
      have HB := Lib.hid hA6
      clear hcat hA6
      go_wp2
      go_roundw
      case rel => exact ⟨⟨p', t.n + v5.n, cp'⟩, q + 1, by omega, rfl, by go_num, HB⟩
      case measure => simp [intOf]; omega
    · obtain rfl : cn = q := by omega
      have i2 : decide ((cn : Int) < s.c.n) = false := decide_eq_false (by have := CN.out; omega)
      have i3 : decide (cn < s.c.n) = false := decide_eq_false (by have := CN.out; omega)
      have RA : Hid (Row wr wr.heap.size t.a t.n us ∧ t.n ≤ 4000000) := Lib.hid (by
        have h1 := row_of HA.out.own
        rw [CN.out, U1X.out] at h1
        exact ⟨h1, by have := h1.1; omega⟩)
      have hc0 := N0X.out wr LA.out
      obtain ⟨av, hav⟩ : ∃ x, x = ys.getD 0 0 := ⟨_, rfl⟩
      obtain ⟨bv, hbv⟩ : ∃ x, x = decide (0 < ys.length) := ⟨_, rfl⟩
      rw [← hav, ← hbv] at hc0
      have HAB := Lib.hid (And.intro hav hbv)
      have HC0 := Lib.hid hc0
      obtain ⟨m, hm⟩ : ∃ m, m = ys.length := ⟨_, rfl⟩
      rw [← hm] at hyl
      have HM := Lib.hid hm
      clear hav hbv hc0 hm
      have q0 := (LA.out.at (w.heap.size) s d (by simp)).c0
      have q1 := (LA.out.at (w.heap.size) s d (by simp)).c1
      have q2 := (LA.out.at (w.heap.size) s d (by simp)).c2
      have q3 := (LA.out.at (w.heap.size) s d (by simp)).c3
      have q4 := (LA.out.at (w.heap.size) s d (by simp)).c4
      go_wp2_with fail
      refine HC0.out.mono ?_
      rintro e w5 ⟨rfl, hb5⟩
      have L5 := Lib.hid (And.intro (LA.out.next hb5) (And.intro (row_next' RA.out.1 hb5) RA.out.2))
      clear hb5 HC0 q0 q1 q2 q3 q4 q5 ql LA RA HA
      go_wp2
      go_loopw [9, 10, 11, 12] (fun o x b i wr => ∃ (v : Ls.Sl) (j : Nat) (av : Int) (bv : Bool), j ≤ m ∧ o = .slice v.a v.n v.c ∧ x = .int .i64 av ∧ b = .bool bv ∧ i = .int .i64 j ∧ Hid (av = ys.getD j 0 ∧ bv = decide (j < ys.length) ∧ Ls.Alling w5 wr v (ys.take j))) (fun _ _ _ i _ => m - (intOf i).toNat)
      case atStart => exact ⟨⟨none, 0, 0⟩, 0, av, bv, Nat.zero_le _, rfl, rfl, rfl, rfl, Lib.hid ⟨HAB.out.1, HAB.out.2, ⟨by rw [List.take_zero]; exact World.ownsRow_nil _ _ _ _, Below.refl _ _⟩⟩⟩
      case round =>
        clear HAB
        obtain ⟨v, j, av, bv, hj, rfl, rfl, rfl, rfl, HR⟩ := hrel
        have j2 : decide ((j : Int) < 20) = true := decide_eq_true (by omega)
        by_cases hlt : j < m
        · obtain rfl : bv = true := by rw [HR.out.2.1]; exact decide_eq_true (by have := HM.out; omega)
          have HT : Hid (ys.take (j + 1) = ys.take j ++ [av]) := Lib.hid (by rw [HR.out.1]; exact take_one (by have := HM.out; omega))
          have hvn : v.n + 1 ≤ 4000000 := by
            have h1 := HR.out.2.2.len
            rw [List.length_take] at h1
            omega
          go_wp2_with (at_builtin; refine Ls.list_cat rfl _ _ rfl rfl rfl (HR.out.2.2.alloc _).own (Ls.row_lit1 _ _) (HR.out.2.2.alloc _).bel.size hvn ?_)
          intro p' cp' w6 hcat
          have hA6 := (HR.out.2.2.alloc _).cat hcat
          rw [← HT.out] at hA6
          have A6 := Lib.hid hA6
          have LB := Lib.hid (L5.out.1.next hA6.bel)
          have hc1 := N1X.out w6 j (by have := HM.out; omega) LB.out
          rw [← HR.out.1] at hc1
          obtain ⟨av2, hav⟩ : ∃ x, x = ys.getD (j + 1) 0 := ⟨_, rfl⟩
          obtain ⟨bv2, hbv⟩ : ∃ x, x = decide (j + 1 < ys.length) := ⟨_, rfl⟩
          rw [← hav, ← hbv] at hc1
          have HAB := Lib.hid (And.intro hav hbv)
          have HC1 := Lib.hid hc1
          clear hcat hA6 hav hbv hc1 HT
          have q0 := (LB.out.at (w.heap.size) s d (by simp)).c0
          have q1 := (LB.out.at (w.heap.size) s d (by simp)).c1
          have q2 := (LB.out.at (w.heap.size) s d (by simp)).c2
          have q3 := (LB.out.at (w.heap.size) s d (by simp)).c3
          have q4 := (LB.out.at (w.heap.size) s d (by simp)).c4
          have q5 := (LB.out.at (w.heap.size) s d (by simp)).c5
          have ql := (LB.out.at (w.heap.size) s d (by simp)).lt
          go_wp2_with fail
          refine HC1.out.mono ?_
          rintro e w7 ⟨rfl, hb7⟩
          have A7 := Lib.hid (all_next A6.out hb7)
          clear hb7 HC1 q0 q1 q2 q3 q4 q5 ql LB A6 HR
          go_wp2
          go_roundw
          case rel => exact ⟨⟨p', v.n + 1, cp'⟩, j + 1, av2, bv2, by omega, rfl, rfl, rfl, by go_num, Lib.hid ⟨HAB.out.1, HAB.out.2, A7.out⟩⟩
          case measure => simp [intOf]; omega
        · obtain rfl : m = j := by omega
          obtain rfl : bv = false := by rw [HR.out.2.1]; exact decide_eq_false (by have := HM.out; omega)
          have LB := Lib.hid (And.intro (L5.out.1.next HR.out.2.2.bel) (And.intro (row_next' L5.out.2.1 HR.out.2.2.bel) (show Row wr wr.heap.size v.a v.n ys ∧ v.n ≤ 4000000 by
            have h1 := row_of HR.out.2.2.own
            rw [List.take_of_length_le (by have := HM.out; omega)] at h1
            exact ⟨h1, by have := h1.1; have := HM.out; omega⟩)))
          have hc2 := KX.out wr LB.out.1
          have HC2 := Lib.hid hc2
          clear hc2 HR
          have q0 := (LB.out.1.at (w.heap.size) s d (by simp)).c0
          have q1 := (LB.out.1.at (w.heap.size) s d (by simp)).c1
          have q2 := (LB.out.1.at (w.heap.size) s d (by simp)).c2
          have q3 := (LB.out.1.at (w.heap.size) s d (by simp)).c3
          have q4 := (LB.out.1.at (w.heap.size) s d (by simp)).c4
          have q5 := (LB.out.1.at (w.heap.size) s d (by simp)).c5
          have ql := (LB.out.1.at (w.heap.size) s d (by simp)).lt
          go_wp2_with fail
          refine HC2.out.mono ?_
          rintro e w8 ⟨⟨xa, n, vc⟩, rfl, ho8, hb8⟩
          have hn8 : n = xs.length := by have h1 := ho8.1; simpa using h1.symm
          have L8 := Lib.hid (And.intro (LB.out.1.next hb8) (And.intro (row_next' LB.out.2.1 hb8) (And.intro (row_next' LB.out.2.2.1 hb8) (And.intro LB.out.2.2.2 (row_of ho8)))))
          rw [← hn8] at hxl
          have HN8 := Lib.hid hn8
          have htl := L5.out.2.2
          clear ho8 hb8 HC2 q0 q1 q2 q3 q4 q5 ql LB L5 hn8
          go_wp2
          go_loopw [13, 15] (fun o i wr => ∃ (z : Ls.Sl) (q : Nat), q ≤ n ∧ o = .slice z.a z.n z.c ∧ i = .int .i64 q ∧ Hid (Ls.Alling w8 wr z ((xs.take q).filter od))) (fun _ i _ => n - (intOf i).toNat)
          case atStart => exact ⟨⟨none, 0, 0⟩, 0, Nat.zero_le _, rfl, rfl, Lib.hid ⟨by simp only [List.take_zero, List.filter_nil]; exact World.ownsRow_nil _ _ _ _, Below.refl _ _⟩⟩
          case round =>
            obtain ⟨z, q, hq, rfl, rfl, HR⟩ := hrel
            have LC := Lib.hid (L8.out.1.next HR.out.bel)
            by_cases hlt : q < n
            · obtain ⟨bb, off, rfl, hbl, hcell⟩ := (row_next' L8.out.2.2.2.2 HR.out.bel).2 (by omega)
              have hq1 := hcell q hlt
              obtain ⟨y, hy⟩ : ∃ y, y = xs.getD q 0 := ⟨_, rfl⟩
              rw [← hy] at hq1
              have hmem : y ∈ xs := by rw [hy]; exact getD_mem (by have := HN8.out; omega)
              obtain ⟨u1, e1, n1, b1, m1, hHd⟩ := HX.out y hmem
              obtain ⟨o1, ho1⟩ : ∃ x, x = od y := ⟨_, rfl⟩
              rw [← ho1] at hHd
              have HTK := Lib.hid (take_next (p := od) (xs := xs) (q := q) (by have := HN8.out; omega))
              rw [← hy, ← ho1] at HTK
              have FS : Hid (HBox wr w.heap.size s ∧ bb < wr.heap.size ∧ wr.cell? ⟨bb, off + q, none⟩ = some (.int .i64 y)) := Lib.hid ⟨LC.out.at (w.heap.size) s d (by simp), hbl, hq1⟩
              have HC2 : Hid (∀ W, Below wr.heap.size wr W → Calls Tryd.prog 18 #[(.agg #[.slice s.w.a s.w.n s.w.c, .slice s.p.a s.p.n s.p.c, .slice (s.u 0).a (s.u 0).n (s.u 0).c, .slice (s.u 1).a (s.u 1).n (s.u 1).c, .slice (s.u 2).a (s.u 2).n (s.u 2).c, .slice s.c.a s.c.n s.c.c]), .int .i64 y] W (HeadOut W (.agg #[.bool u1, .bool o1, .bool e1, .int .i64 n1, .int .i64 b1, .int .i64 m1]) 0)) := Lib.hid (fun W h => hHd W (LC.out.next h))
              have HLT := Lib.hid (And.intro hlt hq)
              have hzn : z.n + 1 ≤ 4000000 := by
                have h1 := HR.out.len
                have h2 : ((xs.take q).filter od).length ≤ (xs.take q).length := List.length_filter_le _ _
                rw [List.length_take] at h2
                omega
              have i0 : (0 : Int) ≤ q := by omega
              have i1 : (q : Int) < n := by omega
              have i2 : decide ((q : Int) < n) = true := decide_eq_true i1
              clear hcell hmem hHd ho1 hy hbl hq1 LC
              go_wp2_with fail
              refine wp_region_from (by kernel_rfl) (KCInv wr (.agg #[.slice s.w.a s.w.n s.w.c, .slice s.p.a s.p.n s.p.c, .slice (s.u 0).a (s.u 0).n (s.u 0).c, .slice (s.u 1).a (s.u 1).n (s.u 1).c, .slice (s.u 2).a (s.u 2).n (s.u 2).c, .slice s.c.a s.c.n s.c.c]) (.slice (some ⟨bb, off, none⟩) n vc) (.int .i64 (q : Int)) (.pointer (some ⟨bb, off + q, none⟩)) (.int .i64 y) u1 o1 e1 n1 b1 m1) ?dag ?start ?step ?done
              case dag => exact dag_any (by kernel_rfl)
              case start =>
                simp only [KCInv, KCPut, Act.put, List.setIfInBounds_toArray, List.set_cons_succ, List.set_cons_zero]
                exact ⟨_, _, _, _, _, _, _, _, _, _, _, 0, rfl, RSt.start _ _ _ _ _ _ _ _ _ _ _⟩
              case step =>
                rintro i o9 l a9 wc ho ⟨x13, x14, x48, x49, x50, x51, x52, x53, x54, x55, x56, b9, rfl, hs⟩ hl haft K hK
                have hi : i < 12 := (Array.getElem?_eq_some_iff.1 ho).1
                refine wpOp_of ho ?_
                rcases (show i = 0 ∨ i = 1 ∨ i = 2 ∨ i = 3 ∨ i = 4 ∨ i = 5 ∨ i = 6 ∨ i = 7 ∨ i = 8 ∨ i = 9 ∨ i = 10 ∨ i = 11 by omega) with rfl | rfl | rfl | rfl | rfl | rfl | rfl | rfl | rfl | rfl | rfl | rfl
                · obtain rfl := Option.some.inj ho
                  have q0 := (FS.out.1.next hs.bel).c0
                  have q1 := (FS.out.1.next hs.bel).c1
                  have q2 := (FS.out.1.next hs.bel).c2
                  have q3 := (FS.out.1.next hs.bel).c3
                  have q4 := (FS.out.1.next hs.bel).c4
                  have q5 := (FS.out.1.next hs.bel).c5
                  clear ho haft hi
                  simp only [KCPut, Act.put]
                  go_simp
                  exact hK _ _ ⟨x13, x14, x48, (.agg #[.slice s.w.a s.w.n s.w.c, .slice s.p.a s.p.n s.p.c, .slice (s.u 0).a (s.u 0).n (s.u 0).c, .slice (s.u 1).a (s.u 1).n (s.u 1).c, .slice (s.u 2).a (s.u 2).n (s.u 2).c, .slice s.c.a s.c.n s.c.c]), x50, x51, x52, x53, x54, x55, x56, b9, (by simp only [KCPut, Act.put, List.setIfInBounds_toArray, List.set_cons_succ, List.set_cons_zero]), hs.did0⟩
                · obtain rfl := Option.some.inj ho
                  clear ho haft hi
                  simp only [KCPut, Act.put]
                  go_simp
                  exact hK _ _ ⟨x13, x14, x48, x49, (.slice (some ⟨bb, off, none⟩) n vc), x51, x52, x53, x54, x55, x56, b9, (by simp only [KCPut, Act.put, List.setIfInBounds_toArray, List.set_cons_succ, List.set_cons_zero]), hs.did1⟩
                · obtain rfl := Option.some.inj ho
                  clear ho haft hi
                  simp only [KCPut, Act.put]
                  go_simp
                  exact hK _ _ ⟨x13, x14, x48, x49, x50, (.int .i64 (q : Int)), x52, x53, x54, x55, x56, b9, (by simp only [KCPut, Act.put, List.setIfInBounds_toArray, List.set_cons_succ, List.set_cons_zero]), hs.did2⟩
                · obtain rfl := Option.some.inj ho
                  have e1 := hs.s1 (haft ⟨1, .data⟩ (by simp) rfl)
                  have e2 := hs.s2 (haft ⟨2, .data⟩ (by simp) rfl)
                  subst e1 e2
                  clear ho haft hi
                  simp only [KCPut, Act.put]
                  go_simp
                  exact hK _ _ ⟨x13, x14, x48, x49, (.slice (some ⟨bb, off, none⟩) n vc), (.int .i64 (q : Int)), (.pointer (some ⟨bb, off + q, none⟩)), x53, x54, x55, x56, b9, (by simp only [KCPut, Act.put, List.setIfInBounds_toArray, List.set_cons_succ, List.set_cons_zero]), hs.did3⟩
                · obtain rfl := Option.some.inj ho
                  have e1 := hs.s3 (haft ⟨3, .data⟩ (by simp) rfl)
                  have cy := (hs.bel.cell (p := ⟨bb, off + q, none⟩) FS.out.2.1).trans FS.out.2.2
                  subst e1
                  clear ho haft hi
                  simp only [KCPut, Act.put]
                  go_simp
                  exact hK _ _ ⟨x13, x14, x48, x49, x50, x51, (.pointer (some ⟨bb, off + q, none⟩)), (.int .i64 y), x54, x55, x56, b9, (by simp only [KCPut, Act.put, List.setIfInBounds_toArray, List.set_cons_succ, List.set_cons_zero]), hs.did4⟩
                · obtain rfl := Option.some.inj ho
                  have e1 := hs.s0 (haft ⟨0, .data⟩ (by simp) rfl)
                  have e2 := hs.s4 (haft ⟨4, .data⟩ (by simp) rfl)
                  have hl10 : l 10 = false := by
                    cases e : l 10
                    · rfl
                    · rw [(hs.o10 e).2] at hl; cases hl
                  subst e1 e2
                  clear ho haft hi
                  simp only [KCPut, Act.put]
                  go_simp
                  refine (HC2.out wc hs.bel).mono ?_
                  rintro e9 w8 ⟨rfl, hb8⟩
                  exact hK _ _ ⟨x13, x14, x48, (.agg #[.slice s.w.a s.w.n s.w.c, .slice s.p.a s.p.n s.p.c, .slice (s.u 0).a (s.u 0).n (s.u 0).c, .slice (s.u 1).a (s.u 1).n (s.u 1).c, .slice (s.u 2).a (s.u 2).n (s.u 2).c, .slice s.c.a s.c.n s.c.c]), x50, x51, x52, (.int .i64 y), (.tuple #[(.agg #[.bool u1, .bool o1, .bool e1, .int .i64 n1, .int .i64 b1, .int .i64 m1]), .int .i64 0]), x55, x56, b9, (by simp only [KCPut, Act.put, List.setIfInBounds_toArray, List.set_cons_succ, List.set_cons_zero]), hs.did5 hl10 hb8⟩
                · obtain rfl := Option.some.inj ho
                  have e1 := hs.s5 (haft ⟨5, .data⟩ (by simp) rfl)
                  subst e1
                  clear ho haft hi
                  simp only [KCPut, Act.put]
                  go_simp
                  exact hK _ _ ⟨x13, x14, (.tuple #[(.agg #[.bool u1, .bool o1, .bool e1, .int .i64 n1, .int .i64 b1, .int .i64 m1]), .int .i64 0]), x49, x50, x51, x52, x53, (.tuple #[(.agg #[.bool u1, .bool o1, .bool e1, .int .i64 n1, .int .i64 b1, .int .i64 m1]), .int .i64 0]), x55, x56, b9, (by simp only [KCPut, Act.put, List.setIfInBounds_toArray, List.set_cons_succ, List.set_cons_zero]), hs.did6⟩
                · obtain rfl := Option.some.inj ho
                  have e1 := hs.s6 (haft ⟨6, .data⟩ (by simp) rfl)
                  subst e1
                  clear ho haft hi
                  simp only [KCPut, Act.put]
                  go_simp
                  exact hK _ _ ⟨x13, x14, (.tuple #[(.agg #[.bool u1, .bool o1, .bool e1, .int .i64 n1, .int .i64 b1, .int .i64 m1]), .int .i64 0]), x49, x50, x51, x52, x53, x54, (.agg #[.bool u1, .bool o1, .bool e1, .int .i64 n1, .int .i64 b1, .int .i64 m1]), x56, b9, (by simp only [KCPut, Act.put, List.setIfInBounds_toArray, List.set_cons_succ, List.set_cons_zero]), hs.did7⟩
                · obtain rfl := Option.some.inj ho
                  have e1 := hs.s6 (haft ⟨6, .data⟩ (by simp) rfl)
                  subst e1
                  clear ho haft hi
                  simp only [KCPut, Act.put]
                  go_simp
                  exact hK _ _ ⟨x13, x14, (.tuple #[(.agg #[.bool u1, .bool o1, .bool e1, .int .i64 n1, .int .i64 b1, .int .i64 m1]), .int .i64 0]), x49, x50, x51, x52, x53, x54, x55, (.int .i64 0), b9, (by simp only [KCPut, Act.put, List.setIfInBounds_toArray, List.set_cons_succ, List.set_cons_zero]), hs.did8⟩
                · obtain rfl := Option.some.inj ho
                  have hl10 : l 10 = false := by
                    cases e : l 10
                    · rfl
                    · rw [(hs.o10 e).1] at hl; cases hl
                  clear ho haft hi
                  simp only [KCPut, Act.put]
                  go_simp
                  exact hK _ _ ⟨(.pointer (some ⟨wc.heap.size, 0, none⟩)), x14, x48, x49, x50, x51, x52, x53, x54, x55, x56, _, (by simp only [KCPut, Act.put, List.setIfInBounds_toArray, List.set_cons_succ, List.set_cons_zero]), hs.did9 hl10 43⟩
                · obtain rfl := Option.some.inj ho
                  have h9 := haft ⟨9, .data⟩ (by simp) rfl
                  have e2 := hs.s7 (haft ⟨7, .data⟩ (by simp) rfl)
                  have h5 := haft ⟨5, .chain⟩ (by simp) rfl
                  have hx : XBox wc b9 := by
                    have := (hs.s9 h9).2.2
                    rwa [if_neg (by rw [hl]; decide)] at this
                  have z0 : wc.cell? ⟨b9, 0, none⟩ = some (.bool false) := hx.cell 0 (by decide)
                  have z1 : wc.cell? ⟨b9, 1, none⟩ = some (.bool false) := hx.cell 1 (by decide)
                  have z2 : wc.cell? ⟨b9, 2, none⟩ = some (.bool false) := hx.cell 2 (by decide)
                  have z3 : wc.cell? ⟨b9, 3, none⟩ = some (.int .i64 0) := hx.cell 3 (by decide)
                  have z4 : wc.cell? ⟨b9, 4, none⟩ = some (.int .i64 0) := hx.cell 4 (by decide)
                  have z5 : wc.cell? ⟨b9, 5, none⟩ = some (.int .i64 0) := hx.cell 5 (by decide)
                  have f0 : wc.frozen? ⟨b9, 0, none⟩ = false := hx.free 0
                  have f1 : wc.frozen? ⟨b9, 1, none⟩ = false := hx.free 1
                  have f2 : wc.frozen? ⟨b9, 2, none⟩ = false := hx.free 2
                  have f3 : wc.frozen? ⟨b9, 3, none⟩ = false := hx.free 3
                  have f4 : wc.frozen? ⟨b9, 4, none⟩ = false := hx.free 4
                  have f5 : wc.frozen? ⟨b9, 5, none⟩ = false := hx.free 5
                  have zl : b9 < wc.heap.size := hx.lt
                  have e1 := (hs.s9 h9).1
                  have HS := Lib.hid (hs.did10 hl h9 h5)
                  subst e1 e2
                  clear ho haft hi hx
                  simp only [KCPut, Act.put]
                  go_simp
                  exact hK _ _ ⟨(.pointer (some ⟨b9, 0, none⟩)), x14, x48, x49, x50, x51, x52, x53, x54, (.agg #[.bool u1, .bool o1, .bool e1, .int .i64 n1, .int .i64 b1, .int .i64 m1]), x56, b9, (by simp only [KCPut, Act.put, List.setIfInBounds_toArray, List.set_cons_succ, List.set_cons_zero]), HS.out⟩
                · obtain rfl := Option.some.inj ho
                  have e1 := hs.s8 (haft ⟨8, .data⟩ (by simp) rfl)
                  subst e1
                  clear ho haft hi
                  simp only [KCPut, Act.put]
                  go_simp
                  exact hK _ _ ⟨x13, (.int .i64 0), x48, x49, x50, x51, x52, x53, x54, x55, (.int .i64 0), b9, (by simp only [KCPut, Act.put, List.setIfInBounds_toArray, List.set_cons_succ, List.set_cons_zero]), hs.did11⟩
              case done =>
                rintro l a9 wc ⟨x13, x14, x48, x49, x50, x51, x52, x53, x54, x55, x56, b9, rfl, hs⟩ hall
                have e0 := hs.s0 (hall 0 (by simp))
                have e1 := hs.s1 (hall 1 (by simp))
                have e2 := hs.s2 (hall 2 (by simp))
                have e3 := hs.s3 (hall 3 (by simp))
                have e4 := hs.s4 (hall 4 (by simp))
                have e5 := hs.s5 (hall 5 (by simp))
                have e6 := hs.s6 (hall 6 (by simp))
                have e7 := hs.s7 (hall 7 (by simp))
                have e8 := hs.s8 (hall 8 (by simp))
                have e11 := hs.s11 (hall 11 (by simp))
                obtain ⟨e9, _, hx9⟩ := hs.s9 (hall 9 (by simp))
                rw [if_pos (hall 10 (by simp))] at hx9
                have H2 := Lib.hid (And.intro hs.bel hx9)
                clear hs hall hx9
                subst e0 e1 e2 e3 e4 e5 e6 e7 e8 e9 e11
                obtain ⟨wd, rfl⟩ : ∃ x : World, x = wc := ⟨_, rfl⟩
                obtain ⟨bz9, rfl⟩ : ∃ x : Nat, x = b9 := ⟨_, rfl⟩
                simp only [KCPut, Act.put, List.setIfInBounds_toArray, List.set_cons_succ, List.set_cons_zero]
                have A2 := Lib.hid (all_next HR.out H2.out.1)
                have Z2 := Lib.hid H2.out.2
                have cy : wd.cell? ⟨bb, off + q, none⟩ = some (.int .i64 y) := (H2.out.1.cell (p := ⟨bb, off + q, none⟩) FS.out.2.1).trans FS.out.2.2
                have cyl : bb < wd.heap.size := by have := FS.out.2.1; have := H2.out.1.size; omega
                have x1 := Z2.out.c1
                have xl := Z2.out.lt
                clear H2 HR FS HC2
                cases o1
                · have H3 := Lib.hid A2.out
                  have HT : Hid ((xs.take (q + 1)).filter od = (xs.take q).filter od) := Lib.hid (by rw [HTK.out]; simp)
                  rw [← HT.out] at H3
                  clear HT A2
                  go_wp2
                  go_roundw
                  case rel => exact ⟨z, q + 1, by have := HLT.out.1; omega, rfl, by go_num, H3⟩
                  case measure => have := HLT.out.1; simp [intOf]; omega
                · have HT : Hid ((xs.take (q + 1)).filter od = (xs.take q).filter od ++ [y]) := Lib.hid (by rw [HTK.out]; simp)
                  go_wp2_with (at_builtin; refine Ls.list_cat rfl _ _ rfl rfl rfl (A2.out.alloc _).own (Ls.row_lit1 _ _) (A2.out.alloc _).bel.size hzn ?_)
                  intro p' cp' w6 hcat
                  have hA6 := (A2.out.alloc _).cat hcat
                  rw [← HT.out] at hA6
                  have H3 := Lib.hid hA6
                  clear hcat hA6 cy cyl x1 xl A2
                  go_wp2
                  go_roundw
                  case rel => exact ⟨⟨p', z.n + 1, cp'⟩, q + 1, by have := HLT.out.1; omega, rfl, by go_num, H3⟩
                  case measure => have := HLT.out.1; simp [intOf]; omega
            · obtain rfl : n = q := by omega
              have i2 : decide ((n : Int) < n) = false := by simp
              have hc3 := UX.out wr LC.out
              have HC3 := Lib.hid hc3
              have RZ : Hid (Row wr wr.heap.size z.a z.n ys ∧ z.n ≤ 4000000) := Lib.hid (by
                have h1 := row_of HR.out.own
                rw [List.take_of_length_le (by have := HN8.out; omega), ← YSX.out] at h1
                exact ⟨h1, by have := h1.1; have := HM.out; omega⟩)
              have RT := Lib.hid (And.intro (row_next' L8.out.2.1 HR.out.bel) (And.intro (row_next' L8.out.2.2.1 HR.out.bel) L8.out.2.2.2.1))
              clear hc3 HR
              have q0 := (LC.out.at (w.heap.size) s d (by simp)).c0
              have q1 := (LC.out.at (w.heap.size) s d (by simp)).c1
              have q2 := (LC.out.at (w.heap.size) s d (by simp)).c2
              have q3 := (LC.out.at (w.heap.size) s d (by simp)).c3
              have q4 := (LC.out.at (w.heap.size) s d (by simp)).c4
              have q5 := (LC.out.at (w.heap.size) s d (by simp)).c5
              have ql := (LC.out.at (w.heap.size) s d (by simp)).lt
              go_wp2_with fail
              refine HC3.out.mono ?_
              rintro e w9 ⟨v9, rfl, ho9, hb9⟩
              have R9 := Lib.hid (And.intro (row_next' RT.out.1 hb9) (row_of ho9))
              have RB := Lib.hid (And.intro (row_next' RZ.out.1 hb9) (row_next' RT.out.2.1 hb9))
              have B9 := Lib.hid (LC.out.next hb9).bel
              have h9n : v9.n ≤ 4000000 := by have := R9.out.2.1; omega
              have hzn := RZ.out.2
              have hvn := RT.out.2.2
              clear ho9 hb9 q0 q1 q2 q3 q4 q5 ql LC HC3 RZ RT
              go_wp2_with fail
              refine (Ls.ints_any _ _ t.a v9.a t.n v9.n t.c v9.c us us _ htl h9n R9.out.1 R9.out.2).mono ?_
              rw [decide_eq_true rfl]
              rintro e w10 ⟨rfl, dd, rfl⟩
              have BD : Below w9.heap.size w9 (w9.drewN dd) := below_drawn' (Below.refl _ _) dd
              have RC := Lib.hid (And.intro (row_next' RB.out.1 BD) (And.intro (row_next' RB.out.2 BD) (B9.out.trans (BD.mono B9.out.size))))
              clear BD R9 RB B9
              generalize w9.drewN dd = w11 at RC ⊢
              go_wp2_with fail
              refine (Ls.ints_any _ _ v.a z.a v.n z.n v.c z.c ys ys _ hvn hzn RC.out.2.1 RC.out.1).mono ?_
              rw [decide_eq_true rfl]
              rintro e w12 ⟨rfl, de, rfl⟩
              have HE := Lib.hid (RC.out.2.2.trans ((below_drawn' (Below.refl w11.heap.size w11) de).mono RC.out.2.2.size))
              clear RC
              go_wp2
              go_ret
              exact ⟨rfl, HE.out⟩
end
theorem walk (s : Hs) (d : Hd_) (k : Int) (w : World) (hz : Cl.Sz w) (hp : Hp w w.heap.size s d) (hv : Fit64 d.ws) (_ : s.p.n ≤ s.p.c) (_ : (Lit.int .i64 k).wf = true) :
    Calls Tryd.prog 4 #[(.agg #[.slice s.w.a s.w.n s.w.c, .slice s.p.a s.p.n s.p.c, .slice (s.u 0).a (s.u 0).n (s.u 0).c, .slice (s.u 1).a (s.u 1).n (s.u 1).c, .slice (s.u 2).a (s.u 2).n (s.u 2).c, .slice s.c.a s.c.n s.c.c]), .int .i64 k] w fun e w' => e = .returned (.bool true) ∧ Below w.heap.size w w' := by
  cases hf : fewH s
  · exact walk_few s d k w hf hz hp
  have hfi := fine_few hf hp hv
  have hz0 := hz.pos
  have hM := fun (W : World) (h : Lx w W none 0 (fun _ => Ls.noSl) noCaches [(w.heap.size, s, d)]) => pmay0_any s d W (h.hp w.heap.size s d (by simp)) (hz.over h.bel hz0) hfi
  cases hm : mayB0 s d
  · rw [hm] at hM
    exact walk_may s d k w hf hM hz hp
  rw [hm] at hM
  have hwp := may_wp hm
  have hin := fun a (h : a ∈ usedL s d) => used_in h
  have hNx : ∀ (W : World) (j : Nat) (av : Int), Lx w W none 0 (fun _ => Ls.noSl) noCaches [(w.heap.size, s, d)] → (∀ i, i < j → i < ((onL s d k).filter (oldB s d)).length → ((onL s d k).filter (oldB s d)).getD i 0 ≤ av) → (j < ((onL s d k).filter (oldB s d)).length → av < ((onL s d k).filter (oldB s d)).getD j 0) → j ≤ ((onL s d k).filter (oldB s d)).length →
      Calls Tryd.prog 17 #[(.agg #[.slice s.w.a s.w.n s.w.c, .slice s.p.a s.p.n s.p.c, .slice (s.u 0).a (s.u 0).n (s.u 0).c, .slice (s.u 1).a (s.u 1).n (s.u 1).c, .slice (s.u 2).a (s.u 2).n (s.u 2).c, .slice s.c.a s.c.n s.c.c]), .int .i64 k, .int .i64 av] W fun e w' => e = .returned (.tuple #[.int .i64 (((onL s d k).filter (oldB s d)).getD j 0), .bool (decide (j < ((onL s d k).filter (oldB s d)).length))]) ∧ Below W.heap.size W w' := fun W j av h h1 h2 h3 => by
    have g := next_any s d W k av (h.hp w.heap.size s d (by simp)) (hz.over h.bel hz0) hfi
    obtain ⟨e1, e2⟩ := next_at _ rfl h1 h2 h3
    rwa [e1, e2] at g
  have hyr : ((onL s d k).filter (oldB s d)).Pairwise (· < ·) := (on_rise s d k).sublist List.filter_sublist
  have hyin : ∀ j, j < ((onL s d k).filter (oldB s d)).length → 0 < ((onL s d k).filter (oldB s d)).getD j 0 := fun j hj => by
    have := used_in (on_mem.1 (List.mem_filter.1 (getD_mem hj)).1).1
    omega
  refine core s d k w (usedL s d) (onL s d k) _ (oldB s d) rfl (used_rise s d) (fun a ha => (hin a ha).1) (upN_all fun a ha => by have := (hin a ha).2; omega) (Nat.le_trans (used_len s d) (allS_len d.f s.p.n)) (on_len s d k) (Nat.le_trans (List.length_filter_le _ _) (on_len s d k)) (few_parts hf).2.2.1 hf hM
    (fun W q _ h => on_any s d W q (h.hp w.heap.size s d (by simp)) (hz.over h.bel hz0) hfi)
    (fun W h => on_any s d W k (h.hp w.heap.size s d (by simp)) (hz.over h.bel hz0) hfi)
    (fun W h => hNx W 0 0 h (fun i hi => absurd hi (by omega)) (fun h0 => hyin 0 h0) (Nat.zero_le _))
    (fun W j hj h => hNx W (j + 1) _ h (fun i hi hl => ?_) (fun h1 => rise_at hyr (by omega) h1) (by omega))
    (fun y hy => ?_) (fun W h => pused_any s d W (h.hp w.heap.size s d (by simp)) (hz.over h.bel hz0) hfi) hz hp
  · by_cases e : i = j
    · subst e; exact Int.le_refl _
    · exact Int.le_of_lt (rise_at hyr (by omega) hj)
  · obtain ⟨u, e, n, b, m, hV⟩ := old_form s d y
    refine ⟨u, e, n, b, m, fun W h => ?_⟩
    have g := phead_any s d y W (h.hp w.heap.size s d (by simp)) (hz.over h.bel hz0) hfi
    have hE : headE s d y = 0 := by
      rcases used_head hm y with h1 | h1
      · exact h1.2.1
      · exact absurd (on_mem.1 hy).1 h1.1
    rwa [hV, hE] at g
-- the frame (hp10frame.py)
set_option maxRecDepth 100000 in
theorem lifted (os : Os) (started : os.Started) (H : Type) (enc : TypeId × Value → H) :
    ReturnsInHanded {} Tryd.checked os 4 .any (fun w args => (Rows.cardsAllSpec.pre enc Tryd.prog Tryd.f4 [] false w args ∧ laidMetH Tryd.prog laidSizes w) ∧ sizedMet enc Tryd.prog Tryd.f4 (OpenSpec.ofChange Rows.cardsAllSpec) false w args)
      (Rows.cardsAllSpec.post enc Tryd.prog Tryd.f4 false true false false) := by
  refine returnsInHanded_of_change_and (C := Tryd.checked) (X := fun w _ => laidMetH Tryd.prog laidSizes w) (fun _ _ _ hh h => h.of_heap hh) own started (by kernel_rfl) Tryd.func4
    (ChangeSpec.witness_shaped (enc := enc) (C := Tryd.checked) (os := os) (X := fun w _ => laidMetH Tryd.prog laidSizes w) false (World.doorLaid Tryd.prog 400 os) #[.agg #[.slice none 0 0, .slice none 0 0, .slice none 0 0, .slice none 0 0, .slice none 0 0, .slice none 0 0], .int .i64 0] 8 rfl (World.shaped_of_RefB (by kernel_rfl) (by kernel_rfl)) (by kernel_rfl) (by kernel_rfl) (by kernel_rfl) (door_met os _)) ?_
  intro W base args ds gs before hval0 hW _ _ hL _
  have hval : ∀ (j : Nat) t v, Tryd.f4.params[j]? = some t → args[j]? = some v → Value.okWide Tryd.prog W .any base t v := hval0
  have hW' := hW
  obtain ⟨p, q, hA0, hV, rfl, hfz, hnd⟩ := hW
  have hA : DataW.TrodAll enc Tryd.prog W 0 (fun _ => true) true Tryd.f4.params.toList args.toList ds p := hA0
  rw [Tryd.params4] at hA hval
  obtain ⟨v0, vs0, d0, ds0, p0, q0, hargs, rfl, rfl, h0, r0⟩ := trodAll_cons hA
  obtain ⟨v1, vs1, d1, ds1, p1, q1, rfl, rfl, rfl, h1, r1⟩ := trodAll_cons r0
  obtain ⟨rfl, rfl, rfl⟩ := trodAll_nil r1
  obtain rfl : args = #[v0, v1] := by cases args; simp_all
  obtain ⟨rfl, rfl⟩ := trodVars_none hV
  have k0 := h0
  have lt0 : ∀ x ∈ p0, x.block < W.heap.size := by obtain ⟨m, hm⟩ := k0; exact DataW.trod_lt m _ _ _ hm
  obtain ⟨s0, z0, rfl, w0, f0, b0⟩ := heap_of8 (hval 0 28 v0 rfl rfl) h0
  obtain ⟨a1, rfl, rfl, rfl, w1⟩ := open_int Tryd.underlying3 (hval 1 3 v1 rfl rfl) h1
  clear hA0 hval0
  refine (walk s0 z0 a1 W (of_laid hL) w0 f0 b0 w1).mono fun e W' ⟨he, bel⟩ => ?_
  subst he
  exact ⟨_, rfl, _, _, _, [], _, [], hW', trodAll_mk1 (shut_bool Tryd.underlying4 _), (trodAll_cons_mk (Below.trod laidOut (by kernel_rfl) (of_decide_eq_true (by kernel_rfl)) k0 bel lt0) (trodAll_cons_mk (shut_int Tryd.underlying3 w1) trodAll_mk0)), rfl, bel.frame _, fun h => by cases h⟩

theorem over : Rows.CardsAllSaid :=
  OpenClaim.holds_of_wide 4 Tryd.f4 rfl rfl rfl rfl rfl rfl rfl ⟨rfl, rfl, rfl, rfl, rfl⟩ rfl rfl rfl rfl rfl (by kernel_rfl) Tryd.func4 (by kernel_rfl)
    (of_decide_eq_true (by kernel_rfl)) (by unfold Func.isWrapper; first | (rw [if_pos (by decide +kernel)]; kernel_rfl) | (rw [if_neg (by decide +kernel)]; exact ⟨rfl, rfl⟩))
    (fun os started H enc _ => lifted os started H enc)

/-- The statement: the card. -/
theorem proved : Rows.CardsAllCardSaid :=
  Claim7.holds_tied_plain_at .later [] [.data] true Rows.cardsAllCard.stood.harness false
    over (fun _ h => by cases h) (by kernel_rfl) (fun _ h => by cases h) cardsAll_row_tie rfl ⟨rfl, rfl⟩ (by kernel_rfl) rfl
    (fun f fn hf hfn => by
      obtain rfl : f = 4 := Option.some.inj ((show Tryd.prog.funcNamed "ragpicker/ragpickerlaw10.CardsAll" = some 4 by kernel_rfl).symm.trans hf) |>.symm
      obtain rfl : fn = Tryd.f4 := (Option.some.inj (Tryd.func4.symm.trans hfn)).symm
      exact ⟨by kernel_rfl, fun j t ht => by
        rw [Tryd.params4] at ht
        have hm : t ∈ [28, 3] := by simpa using Array.mem_of_getElem? ht
        have hall : ([28, 3].all fun u => !Tryd.prog.wantsStandIn u) = true := by kernel_rfl
        exact (show Tryd.prog.wantsStandIn t = false by simpa using List.all_eq_true.1 hall t hm)⟩)
    (by kernel_rfl)
#print axioms proved
end Go.Proofs.YtmalopciboikhaaDoor.CardsAll
