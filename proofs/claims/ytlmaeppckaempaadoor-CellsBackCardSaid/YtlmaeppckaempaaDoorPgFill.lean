/-
  slices.Clone of pages, and package pages' fill: a row of the call's own; all that was there stays.
-/
import Derived.Test.YtlmaeppckaempaaDoorPgRefFind
import Derived.Lib.SliceRun
namespace Go.Proofs.YtlmaeppckaempaaDoor
open Go.RowKit

theorem info_page : (Tryd.prog.info? 34).map (fun i => (i.zero, i.size, i.bytes)) = some (some (.agg #[.int .i64 0, .int .i64 0]), 2, 16) := by kernel_rfl

/-- The row's block is as it was. -/
theorem PMine.kept {w w' : World} {base e g n c : Nat} {f : Nat → Int × Int} (h : PMine w base e g n c f) (hg : w'.heap[g]? = w.heap[g]?) (hs : w.heap.size ≤ w'.heap.size) : PMine w' base e g n c f := by
  obtain ⟨⟨h1, h2⟩, h3, h4, h5⟩ := h
  refine ⟨⟨h1, ?_⟩, h3, by omega, h5⟩
  rcases h2 with h2 | ⟨g', cap, cur, hv, hb, hh, hr⟩
  · exact .inl h2
  · simp only [Value.slice.injEq, Option.some.injEq, Addr.mk.injEq, and_true, true_and] at hv
    obtain ⟨rfl, rfl⟩ := hv
    exact .inr ⟨g, c, cur, rfl, hb, hg.trans hh, hr⟩
theorem PMine.alloc {w : World} {base e g n c : Nat} {f : Nat → Int × Int} (h : PMine w base e g n c f) (o : Obj) : PMine (w.alloc o) base e g n c f :=
  h.kept (Below.heap_alloc w o g h.2.2.1) (by simp)
theorem PMine.below {w w' : World} {base e g n c B : Nat} {f : Nat → Int × Int} (h : PMine w base e g n c f) (hb : Below B w w') (hg : g < B) : PMine w' base e g n c f :=
  h.kept (hb.block g hg) hb.size

/-- Pages a to a + m are p. -/
def fillF (f : Nat → Int × Int) (a m : Nat) (p : Int × Int) : Nat → Int × Int := fun j => if a ≤ j ∧ j < a + m then p else f j
theorem fillF_zero (f : Nat → Int × Int) (a : Nat) (p : Int × Int) : fillF f a 0 p = f := by
  funext j
  exact if_neg (by omega)
theorem fillF_succ (f : Nat → Int × Int) (a m : Nat) (p : Int × Int) : put (fillF f a m p) (a + m) p = fillF f a (m + 1) p := by
  funext j
  unfold put fillF
  by_cases e : j = a + m
  · rw [if_pos e, if_pos (by omega)]
  · rw [if_neg e]
    by_cases h : a ≤ j ∧ j < a + m
    · rw [if_pos h, if_pos (by omega)]
    · rw [if_neg h, if_neg (by omega)]

/-- A copy of the call's own was returned; all that was there is as it was. -/
def PMade (w : World) (n : Nat) (f : Nat → Int × Int) (e : Ending) (w' : World) : Prop :=
  ∃ g c, e = .returned (.slice (some ⟨g, 0, none⟩) n c) ∧ PMine w' w.heap.size 34 g n c f ∧ Below w.heap.size w w'

theorem pcells_of {w : World} {b off n : Nat} {f : Nat → Int × Int} (hc : ∀ i, i < n → w.cell? ⟨b, off + i * 2, none⟩ = some (.int .i64 (f i).1) ∧ w.cell? ⟨b, off + i * 2 + 1, none⟩ = some (.int .i64 (f i).2))
    (j : Nat) (u : Value) (hj : (pcells f n)[j]? = some u) : w.cell? ⟨b, off + j, none⟩ = some u := by
  have hjn : j < n * 2 := by
    have := (List.getElem?_eq_some_iff.1 hj).1
    rwa [pcells_length] at this
  rw [pcells_at f n j hjn] at hj
  obtain rfl := Option.some.inj hj
  by_cases hm : j % 2 = 0
  · have := (hc (j / 2) (by omega)).1
    rw [show off + j / 2 * 2 = off + j by omega] at this
    rw [this]
    simp [pcell, hm]
  · have := (hc (j / 2) (by omega)).2
    rw [show off + j / 2 * 2 + 1 = off + j by omega] at this
    rw [this]
    simp [pcell, hm]
theorem pcells_one {f : Nat → Int × Int} {n : Nat} : ∀ u ∈ pcells f n, u.oneCell' = true := by
  intro u hu
  obtain ⟨x, _, rfl⟩ := List.mem_map.1 hu
  rfl

theorem pclone_ok (B : Nat) (A : Option Addr) (n c : Nat) (f : Nat → Int × Int) (w : World) (hn : 0 < n) (hbig : n ≤ 1000) (hr : PRow w B A n f) :
    Calls Tryd.prog 38 #[.slice A n c] w (PMade w n f) := by
  obtain ⟨i0, hi, hz0, hz1, hz2⟩ := info_parts info_page
  obtain ⟨b, off, rfl, _, hc⟩ := hr hn
  have HC := Lib.hid hc
  have q22 : ∀ (w : World) (a : Option Addr) (n c n' c' : Nat), (binOp .eql 22 (.slice a n c) (.slice none n' c')).run Tryd.prog w = .ok (.bool a.isNone) w := fun w a n c n' c' => Lib.run_eql_slice_nil w _ _ a n c n' c' Tryd.underlying22
  have u22 : ∀ w, Sem.run Tryd.prog (underlying 22) w = .ok (TypeDesc.slice 34) w := run_underlying Tryd.underlying22
  clear hc hr
  go_enter Tryd.func38, Tryd.ntmps38
  go_wp2_with (at_builtin; refine wpList_append_own _ rfl _ _ 22 rfl w.heap.size 34 i0 (.agg #[.int .i64 0, .int .i64 0]) 2 16 Tryd.underlying22 hi hz0 hz1 hz2 rfl (by decide) _ _ _ rfl (World.ownsRow_made w #[] 0 (Nat.le_refl _) (Nat.zero_le _) rfl) ⟨b, off, none⟩ n c (pcells f n) rfl ?qc1 ?qc2 ?qc3 ?qc4 ?qc5 ?qc6 ?_)
  case qc1 => exact pcells_length f n
  case qc2 =>
    intro j u hj
    rw [Addr.add_lit]
    exact Lib.cell?_alloc_some _ (pcells_of HC.out j u hj)
  case qc3 => exact pcells_one
  case qc4 => unfold maxLen; omega
  case qc5 => omega
  case qc6 => simp
  intro v' w1 hown hgrow hnil
  have hown' : w1.ownsRow w.heap.size 34 2 v' n (pcells f n) := by simpa using hown
  obtain ⟨g, c', rfl, hm⟩ := pmine_of hown' hn
  have HM := Lib.hid hm
  clear hown hown' hnil hm
  go_wp2
  go_ret
  exact ⟨g, c', rfl, HM.out, ((Below.refl _ w).alloc (Nat.le_refl _) _).grown hgrow (by simp) (by intro k hk; simp [Value.ownBlock] at hk; omega)⟩

/-- Pages of a row of the caller's own were filled. -/
def Filled (w : World) (base g n c : Nat) (f : Nat → Int × Int) (e : Ending) (w' : World) : Prop :=
  e = .returned (.tuple #[]) ∧ PMine w' base 34 g n c f ∧ Below base w w'
set_option maxHeartbeats 400000 in
theorem fill_any (base g n c cc a m : Nat) (f : Nat → Int × Int) (p : Int × Int) (w : World) (hn : n ≤ 1000) (ham : a + m ≤ n) (hb0 : base ≤ w.heap.size) (h : PMine w base 34 g n c f) :
    Calls Tryd.prog 39 #[.slice (some ⟨g, a * 2, none⟩) m cc, .agg #[.int .i64 p.1, .int .i64 p.2]] w (Filled w base g n c (fillF f a m p)) := by
  obtain ⟨p0, p1⟩ := p
  have hg := h.2.2.1
  have hbg := h.2.1
  have HM := Lib.hid (h.alloc (.cells #[.int .i64 p0, .int .i64 p1] 34))
  clear h
  go_enter Tryd.func39, Tryd.ntmps39
  go_wp2
  go_loopw [7] (fun i wr => ∃ k : Nat, k ≤ m ∧ i = .int .i64 k ∧ PMine wr base 34 g n c (fillF f a k (p0, p1)) ∧ Below base w wr ∧ w.heap.size < wr.heap.size ∧
    wr.cell? ⟨w.heap.size, 0, none⟩ = some (.int .i64 p0) ∧ wr.cell? ⟨w.heap.size, 1, none⟩ = some (.int .i64 p1)) (fun i _ => m - (intOf i).toNat)
  case atStart => exact ⟨0, Nat.zero_le _, rfl, by rw [fillF_zero]; exact HM.out, (Below.refl _ _).alloc hb0 _, by simp, by simp [go_sem], by simp [go_sem]⟩
  case round =>
    obtain ⟨k, hk, rfl, hm, hb, hsz, c0, c1⟩ := hrel
    have HB := Lib.hid hb
    have HK := Lib.hid hm
    have hz := hb.size
    by_cases hlt : k < m
    · have f0 := hm.free (a * 2 + k * 2)
      have f1 := hm.free (a * 2 + k * 2 + 1)
      have hgr := hm.2.2.1
      obtain ⟨d0, d1⟩ := hm.cells (a + k) (by omega)
      rw [show (a + k) * 2 = a * 2 + k * 2 by omega] at d0 d1
      clear hm hb
      go_wp2
      go_roundw
      case rel =>
        refine ⟨k + 1, by omega, by go_num, ?_, ?_, ?_, ?_, ?_⟩
        · have := HK.out.stored (a + k) (p0, p1)
          rw [show (a + k) * 2 = a * 2 + k * 2 by omega, fillF_succ] at this
          exact this
        · exact (HB.out.setCell (by simpa using hbg) _).setCell (by simpa using hbg) _
        · simpa using hsz
        · simp [go_sem, c0]
        · simp [go_sem, c1]
      case measure => simp [intOf]; omega
    · obtain rfl : k = m := by omega
      clear hm hb
      go_wp2
      go_end0
      exact ⟨rfl, HK.out, HB.out⟩
end Go.Proofs.YtlmaeppckaempaaDoor
