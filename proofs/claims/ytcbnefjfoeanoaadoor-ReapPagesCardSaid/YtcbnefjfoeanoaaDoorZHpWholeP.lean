/-
  Package heap's Whole, in whatever case.
-/
import Derived.Test.YtcbnefjfoeanoaaDoorHpZI
namespace Go.Proofs.YtcbnefjfoeanoaaDoor
open Go.RowKit Go.Sort
set_option maxRecDepth 100000

/-- Is a heap whole, with caches? -/
def wholeH (s : Hs) (d : Hd_) (m : Nat) (F : Nat → Nat → List Int) : Bool := mayH s d m F && (Cl.allS d.f s.p.n).all fun a => !(wd d a == 0) || decide (a ∈ Ls.allOf (ahead d.F F) (1 + m))
/-- The library's Sort of a list of the walk's own. -/
theorem sort_own (w : World) (base : Nat) (v : Ls.Sl) (xs : List Int) (own : w.ownsRow base 3 1 (.slice v.a v.n v.c) v.n (xs.map (Value.int .i64))) (hlen : xs.length ≤ 4000000) :
    Calls Tryd.prog 25 #[.slice v.a v.n v.c] w fun e w' => e = .returned (.tuple #[]) ∧ w'.ownsRow base 3 1 (.slice v.a v.n v.c) v.n ((Ls.srt xs).map (Value.int .i64)) ∧ w.grownBy w' (Value.slice v.a v.n v.c).ownBlock := by
  have hl : v.n = xs.length := by simpa using own.1.symm
  obtain ⟨va, vn, vc⟩ := v
  dsimp only at hl own ⊢
  subst hl
  by_cases h0 : xs.length = 0
  · obtain rfl := List.eq_nil_of_length_eq_zero h0
    refine (Tryd.slices_Sort_int_none va vc w).mono ?_
    rintro e w' ⟨rfl, rfl⟩
    exact ⟨rfl, by simpa [Ls.srt] using own, ⟨rfl, rfl, rfl, Nat.le_refl _, fun _ _ _ => rfl⟩⟩
  · obtain ⟨_, h1⟩ := own
    rcases h1 with ⟨_, h2⟩ | ⟨g, cap, cur, h2, hbase, hh, hc1, hc2, hsz, htk⟩
    · exact absurd h2 h0
    · simp only [Value.slice.injEq, true_and] at h2
      obtain ⟨rfl, rfl⟩ := h2
      rw [Nat.mul_one] at htk
      have hg : g < w.heap.size := (Array.getElem?_eq_some_iff.1 hh).1
      have hH := holds_of_blockI (ss := xs) hh htk
      refine (Tryd.slices_Sort_int g 0 vc xs w hH hg (by omega)).mono ?_
      rintro e w' ⟨rfl, q, os, rfl⟩
      exact ⟨rfl, ownsRow_sortedI (base := base) (n := q) (os := os) (ss := xs) (ts := Ls.srt xs) (Ls.srt_len xs) hbase hh hc1 hc2 hsz, grownBy_sortedI (n := q) (os := os) (g := g) (Ls.srt xs).toArray⟩
def JW (n₀ bf : Nat) (ys : List Int) (M : Nat → Prop) (_ : List Int) (W : World) : Prop := ∃ v, UGath n₀ bf ys M W v
theorem bides_JW (n₀ bf : Nat) (ys : List Int) : Cl.Bides n₀ (JW n₀ bf ys) := by
  rintro M M' pre W W' ⟨v, h⟩ hb hs hm
  exact ⟨v, h.bide hs hm⟩
def askW (d : Hd_) (ys : List Int) (a : Int) : Bool := decide (wd d a % 2 = 1) || decide (a ∈ ys)
def KWOut (n₀ bf : Nat) (ys : List Int) (M : Nat → Prop) (pre : List Int) (W : World) (R : Bool) (e : Ending) (W' : World) : Prop := e = .returned (.bool R) ∧ Cl.Kept n₀ M W W' ∧ (R = true → JW n₀ bf ys M pre W')
section
variable (n₀ bf : Nat) (ys : List Int) (d : Hd_) (M : Nat → Prop) (pre pre' : List Int) (a x : Int) (p : Int × Int) (W : World)
theorem wholeK_any (hx : x = wd d a) (hJ : JW n₀ bf ys M pre W) (hn : n₀ ≤ W.heap.size) (hs : ys.Pairwise (· ≤ ·)) (hl : ys.length ≤ 4000000) :
    Calls Tryd.prog 27 #[cellV a x p, .pointer (some ⟨bf, 0, none⟩)] W (KWOut n₀ bf ys M pre' W (askW d ys a)) := by
  have fin : ∀ (R : Bool) W', Below W.heap.size W W' → KWOut n₀ bf ys M pre' W R (.returned (.bool R)) W' := fun R W' hb =>
    ⟨rfl, ⟨hb.mono hn, fun k _ hk => hb.block k hk⟩, fun _ => bides_JW n₀ bf ys M M pre' W W' hJ (hb.mono hn) (fun k hk _ => hb.block k hk) (fun _ h => .inl h)⟩
  have FIN := Lib.hid fin
  clear fin
  by_cases h1 : x % 2 = 1
  · have hu : decide (x % 2 = 1) = true := decide_eq_true h1
    have e : askW d ys a = true := by rw [askW, ← hx, hu]; rfl
    rw [e]
    unfold cellV
    rw [hu]
    clear hx hJ h1 hu e hs
    go_enter Tryd.func27, Tryd.ntmps27
    go_wp2
    go_ret
    exact FIN.out _ _ ((Below.refl _ _).alloc (Nat.le_refl _) _)
  · have hu : decide (x % 2 = 1) = false := decide_eq_false h1
    have e : askW d ys a = decide (a ∈ ys) := by rw [askW, ← hx, hu]; rfl
    rw [e]
    obtain ⟨v, hv⟩ := hJ
    have c0 := hv.box.cell
    have cl := hv.box.lt
    obtain ⟨a1, c1, e1, hr, _, _⟩ := Ls.owns_row hv.row
    have HR := Lib.hid hr
    have HS := Lib.hid hs
    have hvn : v.n ≤ 100000000 := by have := hr.1; omega
    simp only [Value.slice.injEq, true_and] at e1
    obtain ⟨rfl, rfl⟩ := e1
    unfold cellV
    rw [hu]
    clear hx h1 hu e hs hv hr
    go_enter Tryd.func27, Tryd.ntmps27
    go_wp2_with fail
    have hb := (Below.refl W.heap.size W).alloc (Nat.le_refl _) (.cells #[.int .i64 a, .int .i64 p.1, .int .i64 p.2, .bool false, .bool (decide (x / 2 % 2 = 1)), .bool (decide (x / 4 % 2 = 1)), .int .i64 (nOf x), .int .i64 (x / 1024 % 4194304), .int .i64 (x / 4294967296)] 61)
    refine (has_any W.heap.size _ _ _ ys a _ hvn (HR.out.below hb) HS.out).mono ?_
    rintro e w1 ⟨rfl, q, rfl⟩
    have HB := Lib.hid (below_drawn' hb q)
    clear hb
    go_wp2
    go_ret
    exact FIN.out _ _ HB.out
end
theorem asks_whole (n₀ bf : Nat) (ys : List Int) (d : Hd_) (n : Nat) (hs : ys.Pairwise (· ≤ ·)) (hl : ys.length ≤ 4000000) (hb : n₀ ≤ bf) : Asks 27 #[.pointer (some ⟨bf, 0, none⟩)] n₀ d (askW d ys) (Cl.allS d.f n) (JW n₀ bf ys) := by
  intro M pre a W hpre hw hJ hz hfit
  have hn : n₀ ≤ W.heap.size := by obtain ⟨s, h⟩ := hJ; have := h.box.lt; omega
  exact wholeK_any n₀ bf ys d M pre _ a _ _ W rfl hJ hn hs hl
theorem whole_eq {s : Hs} {d : Hd_} {m : Nat} {F : Nat → Nat → List Int} (hm : mayH s d m F = true) : (Cl.allS d.f s.p.n).all (holdsAt d (askW d (Ls.srt (Ls.allOf (ahead d.F F) (1 + m))))) = wholeH s d m F := by
  rw [wholeH, hm, Bool.true_and]
  refine all_congr fun a ha => ?_
  have hw := word_used (List.all_eq_true.1 (mayH_all hm).2.1 a ha)
  unfold holdsAt askW
  rw [hw.1, Bool.true_and]
  have e1 : decide (a ∈ Ls.srt (Ls.allOf (ahead d.F F) (1 + m))) = decide (a ∈ Ls.allOf (ahead d.F F) (1 + m)) := by
    rw [decide_eq_decide]
    exact (List.mergeSort_perm _ _).mem_iff
  rw [e1]
  congr 1
  by_cases h1 : wd d a % 2 = 1
  · have : ¬ wd d a = 0 := fun h => by rw [h] at h1; exact absurd h1 (by decide)
    simp [h1, this]
  · simp [(hw.2 h1).2]
theorem own_less' {w : World} {b b' n : Nat} {v : Value} {xs : List Value} (h : w.ownsRow b 3 1 v n xs) (hb : b' ≤ b) : w.ownsRow b' 3 1 v n xs :=
  ⟨h.1, h.2.imp id fun ⟨g, cap, cur, e, hg, r⟩ => ⟨g, cap, cur, e, Nat.le_trans hb hg, r⟩⟩
section
variable (s : Hs) (d : Hd_) (A : Option Addr) (m c : Nat) (U : Nat → Nat → Ls.Sl) (F : Nat → Nat → List Int) (w : World)
set_option maxHeartbeats 1000000 in
theorem pwhole_core (R : Bool) (hp : Hp w w.heap.size s d) (hl : Ls.LRow w w.heap.size A m U F) (hm : m ≤ 1000) (hz : Cl.Sz w) (hf : Fine s d) (hlen : (Ls.allOf (ahead d.F F) (1 + m)).length ≤ 2000000) (hR : R = wholeH s d m F) :
    Calls Tryd.prog 9 #[(.agg #[.slice s.w.a s.w.n s.w.c, .slice s.p.a s.p.n s.p.c, .slice (s.u 0).a (s.u 0).n (s.u 0).c, .slice (s.u 1).a (s.u 1).n (s.u 1).c, .slice (s.u 2).a (s.u 2).n (s.u 2).c, .slice s.c.a s.c.n s.c.c]), .slice A m c] w fun e w' => e = .returned (.bool R) ∧ Below w.heap.size w w' := by
  have HP := Lib.hid hp
  have HF := Lib.hid hf
  have HL := Lib.hid hl
  have HZ := Lib.hid hz
  have HN := Lib.hid hlen
  have HR := Lib.hid hR
  have hz0 := hz.pos
  have hb0 := (Below.refl w.heap.size w).alloc (Nat.le_refl _) (.cells #[.slice s.w.a s.w.n s.w.c, .slice s.p.a s.p.n s.p.c, .slice (s.u 0).a (s.u 0).n (s.u 0).c, .slice (s.u 1).a (s.u 1).n (s.u 1).c, .slice (s.u 2).a (s.u 2).n (s.u 2).c, .slice s.c.a s.c.n s.c.c] 28)
  have HM := Lib.hid (pmay_any s d A m c U F _ (HP.out.next hb0) (lrow_more (HL.out.below hb0) hb0.size) hm (HZ.out.over hb0 hz0) HF.out.wn (by have := HF.out.pn; omega) HF.out.cn HN.out)
  cases hmm : mayH s d m F
  · have hR0 : R = false := by rw [hR, wholeH, hmm]; rfl
    rw [hmm] at HM
    subst hR0
    clear hp hf hl hz hlen hR HR hmm
    go_enter Tryd.func9, Tryd.ntmps9
    go_wp2_with fail
    refine HM.out.mono ?_
    rintro e w1 ⟨rfl, hb1⟩
    have HB := Lib.hid (hb0.trans (hb1.mono hb0.size))
    clear hb0 hb1
    go_wp2
    go_ret
    exact ⟨rfl, HB.out⟩
  rw [hmm] at HM
  have hRe := hR.trans (whole_eq hmm).symm
  have HRE := Lib.hid hRe
  have HMA := Lib.hid (mayH_all hmm)
  clear hp hf hl hz hlen hR HR hmm hRe
  go_enter Tryd.func9, Tryd.ntmps9
  go_wp2_with fail
  refine HM.out.mono ?_
  rintro e w1 ⟨rfl, hb1⟩
  have bx1 := (HBox.new w s 28).next hb1
  have B1 := Lib.hid (hb0.trans (hb1.mono hb0.size))
  have X1 := Lib.hid bx1
  have q0 := bx1.c0
  have q1 := bx1.c1
  have q2 := bx1.c2
  have q3 := bx1.c3
  have q4 := bx1.c4
  have q5 := bx1.c5
  have ql := bx1.lt
  clear hb0 hb1 bx1
  go_wp2_with fail
  refine (told_any s d w1 A m c U F ((HP.out.below B1.out).more B1.out.size) (lrow_more (HL.out.below B1.out) B1.out.size) hm).mono ?_
  rintro e w2 ⟨A2, c2, rfl, hl2, hb2⟩
  have L2 := Lib.hid hl2
  have B2 := Lib.hid (B1.out.trans (hb2.mono B1.out.size))
  have X2 := Lib.hid (X1.out.next hb2)
  clear hl2 hb2 q0 q1 q2 q3 q4 q5 ql
  go_wp2_with fail
  refine (Ls.all_any w2.heap.size A2 (1 + m) c2 _ _ w2 L2.out (Nat.le_refl _) (by omega) HN.out).mono ?_
  rintro e w3 ⟨v, rfl, ho, hb3⟩
  have O3 := Lib.hid ho
  have B3 := Lib.hid (B2.out.trans (hb3.mono B2.out.size))
  have X3 := Lib.hid (X2.out.next hb3)
  have hs3 := hb3.size
  have hs2 := X2.out.lt
  clear ho hb3
  go_wp2_with fail
  have bx4 := Boxed.new w3 22 (.slice v.a v.n v.c)
  have b4 := (Below.refl w3.heap.size w3).alloc (Nat.le_refl _) (.cells #[.slice v.a v.n v.c] 22)
  refine (sort_own _ w2.heap.size v _ (O3.out.alloc _) (by have := HN.out; omega)).mono ?_
  rintro e w5 ⟨rfl, ho5, hg5⟩
  have hne := bx4.not_row (by decide) (O3.out.alloc _)
  have bx5 := bx4.kept hg5 hne
  have hsz5 := hg5.size
  rw [World.size_alloc] at hsz5
  have hob : ∀ k, (Value.slice v.a v.n v.c).ownBlock = some k → w2.heap.size ≤ k := fun k hk => (O3.out.lt k hk).1
  have B5 := Lib.hid ((B3.out.alloc (by omega) (.cells #[.slice v.a v.n v.c] 22)).grown hg5 (by simp; omega) (fun k hk => by have := hob k hk; omega))
  have X5 := Lib.hid ((X3.out.next b4).same (hg5.block _ (by simp; omega) (fun e => by have := hob _ e.symm; omega)) hg5.size)
  have U5 : UGath w.heap.size w3.heap.size (Ls.srt (Ls.allOf (ahead d.F F) (1 + m))) (fun k => k = w.heap.size) w5 v :=
    ⟨bx5, by intro (h : w3.heap.size = w.heap.size); omega, by omega, own_less' ho5 (by omega), fun g hg (h : g = w.heap.size) => by have := hob g hg; omega⟩
  have HU := Lib.hid U5
  have q0 := X5.out.c0
  have q1 := X5.out.c1
  have q2 := X5.out.c2
  have q3 := X5.out.c3
  have q4 := X5.out.c4
  have q5 := X5.out.c5
  have ql := X5.out.lt
  clear bx4 b4 ho5 hg5 hne bx5 hob U5
  have HAS := Lib.hid (asks_whole w.heap.size w3.heap.size (Ls.srt (Ls.allOf (ahead d.F F) (1 + m))) d s.p.n (Ls.srt_le _) (by rw [Ls.srt_len]; have := HN.out; omega) (by omega))
  generalize Ls.srt (Ls.allOf (ahead d.F F) (1 + m)) = ys at HAS HU HRE ⊢
  have J0 := Lib.hid (show JW w.heap.size w3.heap.size ys (fun k => k = w.heap.size) [] w5 from ⟨v, HU.out⟩)
  go_wp2_with fail
  refine (every_any s d w5 w.heap.size (fun k => k = w.heap.size) _ _ (askW d ys) (JW w.heap.size w3.heap.size ys) (HP.out.below B5.out) B5.out.size hz0 (HZ.out.over B5.out hz0) HMA.out.1 (enters_of Tryd.func27 (by kernel_rfl) rfl) (bides_JW _ _ _)
    J0.out (by rintro k rfl; exact ql) HAS.out).mono ?_
  rw [← HRE.out]
  rintro e w6 ⟨rfl, hk6, _⟩
  have B6 := Lib.hid (B5.out.trans hk6.1)
  clear hk6 q0 q1 q2 q3 q4 q5 ql
  go_wp2
  go_ret
  exact ⟨rfl, B6.out⟩
theorem pwhole_any (hp : Hp w w.heap.size s d) (hl : Ls.LRow w w.heap.size A m U F) (hm : m ≤ 1000) (hz : Cl.Sz w) (hf : Fine s d) (hlen : (Ls.allOf (ahead d.F F) (1 + m)).length ≤ 2000000) :
    Calls Tryd.prog 9 #[(.agg #[.slice s.w.a s.w.n s.w.c, .slice s.p.a s.p.n s.p.c, .slice (s.u 0).a (s.u 0).n (s.u 0).c, .slice (s.u 1).a (s.u 1).n (s.u 1).c, .slice (s.u 2).a (s.u 2).n (s.u 2).c, .slice s.c.a s.c.n s.c.c]), .slice A m c] w fun e w' => e = .returned (.bool (wholeH s d m F)) ∧ Below w.heap.size w w' := pwhole_core s d A m c U F w _ hp hl hm hz hf hlen rfl
end
end Go.Proofs.YtcbnefjfoeanoaaDoor
