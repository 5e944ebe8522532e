/-
  Package cells' find: the first cell that is looked for.
-/
import Derived.Test.YtlmaeppckaempaaDoorClStarts
namespace Go.Proofs.YtlmaeppckaempaaDoor
open Go.RowKit Go.Shelf
attribute [local go_sem] Oper.semAt_some

/-- A function value that tells, of any cell, what p does. -/
def Tells (gf : Nat) (a : Int) (p : Int × Int → Bool) : Prop :=
  ∀ (q r : Int) (w : World), 0 ≤ q → q ≤ 100000 → 0 ≤ r → r ≤ 100 → Calls Tryd.prog gf #[.int .i64 a, .agg #[.int .i64 q, .int .i64 r]] w fun e w' => e = .returned (.bool (p (q, r))) ∧ Below w.heap.size w w'

/-- The first of L that is looked for, or the empty cell; and whether there is one. -/
def foundV (L : List (Int × Int)) (p : Int × Int → Bool) : Int × Int := (L.find? p).getD (0, 0)
def foundS (L : List (Int × Int)) (p : Int × Int → Bool) : Bool := (L.find? p).isSome
/-- While none is found: the call's own cells. -/
structure Finding (w : World) (gf : Nat) (a : Int) (s : Bool) (q r : Int) (M : Nat → Prop) (W : World) : Prop where
  look : W.cell? ⟨w.heap.size, 0, none⟩ = some (.func (.func gf) #[.int .i64 a] #[])
  at_ : W.cell? ⟨w.heap.size + 1, 0, none⟩ = some (.int .i64 q)
  room : W.cell? ⟨w.heap.size + 1, 1, none⟩ = some (.int .i64 r)
  is : W.cell? ⟨w.heap.size + 1 + 1, 0, none⟩ = some (.bool s)
  f0 : W.frozen? ⟨w.heap.size + 1, 0, none⟩ = false
  f1 : W.frozen? ⟨w.heap.size + 1, 1, none⟩ = false
  f2 : W.frozen? ⟨w.heap.size + 1 + 1, 0, none⟩ = false
  m0 : ¬ M w.heap.size
  m1 : ¬ M (w.heap.size + 1)
  m2 : ¬ M (w.heap.size + 1 + 1)
  bel : Below w.heap.size w W
theorem Finding.over {w : World} {gf : Nat} {a : Int} {s : Bool} {q r : Int} {M M' : Nat → Prop} {W W' : World} (h : Finding w gf a s q r M W) (hb : Below w.heap.size W W')
    (hs : ∀ k, k < W.heap.size → ¬ M k → W'.heap[k]? = W.heap[k]?) (hm : ∀ k, M' k → M k ∨ (W.heap.size ≤ k ∧ k < W'.heap.size)) : Finding w gf a s q r M' W' := by
  have no : ∀ k, k < W.heap.size → ¬ M k → ¬ M' k := fun k hk hn h => by
    rcases hm k h with h | h
    · exact hn h
    · omega
  have l0 := World.block_lt_of_cell? W _ h.look
  have l1 := World.block_lt_of_cell? W _ h.at_
  have l2 := World.block_lt_of_cell? W _ h.is
  simp only at l0 l1 l2
  exact ⟨(World.cell?_of_block (a := ⟨w.heap.size, 0, none⟩) (hs _ l0 h.m0)).trans h.look, (World.cell?_of_block (a := ⟨w.heap.size + 1, 0, none⟩) (hs _ l1 h.m1)).trans h.at_,
    (World.cell?_of_block (a := ⟨w.heap.size + 1, 1, none⟩) (hs _ l1 h.m1)).trans h.room, (World.cell?_of_block (a := ⟨w.heap.size + 1 + 1, 0, none⟩) (hs _ l2 h.m2)).trans h.is,
    (World.frozen?_of_block (a := ⟨w.heap.size + 1, 0, none⟩) (hs _ l1 h.m1)).trans h.f0, (World.frozen?_of_block (a := ⟨w.heap.size + 1, 1, none⟩) (hs _ l1 h.m1)).trans h.f1,
    (World.frozen?_of_block (a := ⟨w.heap.size + 1 + 1, 0, none⟩) (hs _ l2 h.m2)).trans h.f2, no _ l0 h.m0, no _ l1 h.m1, no _ l2 h.m2, h.bel.trans hb⟩

theorem Finding.stored {w : World} {gf : Nat} {a : Int} {s : Bool} {q r : Int} {M : Nat → Prop} {W : World} (h : Finding w gf a s q r M W) (s' : Bool) (q' r' : Int) :
    Finding w gf a s' q' r' M (((W.setCell ⟨w.heap.size + 1, 0, none⟩ (.int .i64 q')).setCell ⟨w.heap.size + 1, 1, none⟩ (.int .i64 r')).setCell ⟨w.heap.size + 1 + 1, 0, none⟩ (.bool s')) ∧
    ∀ k, k ≠ w.heap.size + 1 → k ≠ w.heap.size + 1 + 1 → (((W.setCell ⟨w.heap.size + 1, 0, none⟩ (.int .i64 q')).setCell ⟨w.heap.size + 1, 1, none⟩ (.int .i64 r')).setCell ⟨w.heap.size + 1 + 1, 0, none⟩ (.bool s')).heap[k]? = W.heap[k]? := by
  have hs : ∀ k, k ≠ w.heap.size + 1 → k ≠ w.heap.size + 1 + 1 → (((W.setCell ⟨w.heap.size + 1, 0, none⟩ (.int .i64 q')).setCell ⟨w.heap.size + 1, 1, none⟩ (.int .i64 r')).setCell ⟨w.heap.size + 1 + 1, 0, none⟩ (.bool s')).heap[k]? = W.heap[k]? :=
    fun k h1 h2 => ((Below.heap_setCell _ _ _ k h2).trans (Below.heap_setCell _ _ _ k h1)).trans (Below.heap_setCell _ _ _ k h1)
  have h0 := h.look
  have h1 := h.at_
  have h2 := h.room
  have h3 := h.is
  refine ⟨⟨(World.cell?_of_block (a := ⟨w.heap.size, 0, none⟩) (hs _ (by simp; try omega) (by simp; try omega))).trans h0, by simp [go_sem, h1], by simp [go_sem, h2], by simp [go_sem, h3], ?_, ?_, ?_, h.m0, h.m1, h.m2, ((h.bel.setCell (by simp; try omega) _).setCell (by simp; try omega) _).setCell (by simp; omega) _⟩, hs⟩
  · simp only [World.frozen?_setCell]; exact h.f0
  · simp only [World.frozen?_setCell]; exact h.f1
  · simp only [World.frozen?_setCell]; exact h.f2
/-- The results, read out of the cells. -/
theorem Finding.left {w : World} {gf : Nat} {a : Int} {s : Bool} {q r : Int} {M : Nat → Prop} {W : World} (h : Finding w gf a s q r M W) {L : List (Int × Int)} {p : Int × Int → Bool} (tmps : Array Value)
    (ht : tmps[4]?.getD undef = .pointer (some ⟨w.heap.size + 1, 0, none⟩)) (ht' : tmps[5]?.getD undef = .pointer (some ⟨w.heap.size + 1 + 1, 0, none⟩)) (hq : (foundV L p).1 = q) (hr : (foundV L p).2 = r) (hs : foundS L p = s) :
    LeavesIn Fence.wide 1 Tryd.prog Tryd.f29 tmps (fun e w' => e = .returned (.tuple #[.agg #[.int .i64 (foundV L p).1, .int .i64 (foundV L p).2], .bool (foundS L p)]) ∧ Below w.heap.size w w') [] .returning W := by
  refine ⟨_, ?_, by rw [hq, hr, hs], h.bel⟩
  have h1 := h.at_
  have h2 := h.room
  have h3 := h.is
  simp [results, Tryd.f29, go_sem, ht, ht', h1, h2, h3]


def NoneYet (w : World) (gf : Nat) (a : Int) (L : List (Int × Int)) (p : Int × Int → Bool) (M : Nat → Prop) (pre : List (Int × Int)) (W : World) : Prop := pre.find? p = none ∧ pre <+: L ∧ Finding w gf a false 0 0 M W
def OneNow (w : World) (gf : Nat) (a : Int) (L : List (Int × Int)) (p : Int × Int → Bool) (c : Code) (M : Nat → Prop) (_ : List (Int × Int)) (W : World) : Prop := c = .ret ∧ ∃ q r, L.find? p = some (q, r) ∧ Finding w gf a true q r M W
theorem find_none_snoc {pre : List (Int × Int)} {p : Int × Int → Bool} {x : Int × Int} (h : pre.find? p = none) (hx : p x = false) : (pre ++ [x]).find? p = none := by simp [List.find?_append, h, hx]
theorem find_now {L pre : List (Int × Int)} {p : Int × Int → Bool} {x : Int × Int} (h : pre.find? p = none) (hx : p x = true) (hp : pre ++ [x] <+: L) : L.find? p = some x := by
  obtain ⟨t, rfl⟩ := hp
  simp [List.find?_append, h, hx]

/-- What all cells of pages that may be meet. -/
def Bounded (L : List (Int × Int)) : Prop := ∀ c ∈ L, 0 ≤ c.1 ∧ c.1 ≤ 100000 ∧ 0 ≤ c.2 ∧ c.2 ≤ 100

set_option maxRecDepth 100000 in
set_option maxHeartbeats 1000000 in
theorem find_any (B : Nat) (A : Option Addr) (n c : Nat) (f : Nat → Int × Int) (gf : Nat) (a : Int) (p : Int × Int → Bool) (w : World) (hn : n ≤ 1000) (hz : Sz w) (hr : PRow w B A n f) (hB : B ≤ w.heap.size) (hL : Bounded (allL f n)) (eg : ∀ args w, (callFunc gf args).run Tryd.prog w = .ok (.enter gf args) w)
    (ht : Tells gf a p) :
    Calls Tryd.prog 29 #[.slice A n c, .func (.func gf) #[.int .i64 a] #[]] w fun e w' =>
      e = .returned (.tuple #[.agg #[.int .i64 (foundV (allL f n) p).1, .int .i64 (foundV (allL f n) p).2], .bool (foundS (allL f n) p)]) ∧ Below w.heap.size w w' := by
  have HT := Lib.hid ht
  have HL := Lib.hid hL
  obtain ⟨w3, hw3⟩ : ∃ w3, w3 = ((w.alloc (.cells #[.func (.func gf) #[.int .i64 a] #[]] 49)).alloc (.cells #[.int .i64 0, .int .i64 0] 46)).alloc (.cells #[.bool false] 4) := ⟨_, rfl⟩
  have hb3 : Below w.heap.size w w3 := by rw [hw3]; exact (((Below.refl _ _).alloc (Nat.le_refl _) _).alloc (by simp) _).alloc (by simp; omega) _
  have hz3 : w3.heap.size = w.heap.size + 1 + 1 + 1 := by rw [hw3]; simp
  have hF : Finding w gf a false 0 0 (fun k => k = w.heap.size + 1 + 1 + 1) (w3.alloc (.cells #[.slice A n c] 22)) := by
    refine ⟨?_, ?_, ?_, ?_, ?_, ?_, ?_, by omega, by omega, by omega, hb3.alloc (by omega) _⟩ <;> (rw [hw3]; simp [go_sem])
  have hG : Gives Tryd.prog 42 #[.pointer (some ⟨w.heap.size + 1 + 1 + 1, 0, none⟩)] encC w.heap.size (fun k => k = w.heap.size + 1 + 1 + 1) (allL f n) (w3.alloc (.cells #[.slice A n c] 22)) :=
    each_gives B w.heap.size A n c _ f _ hn ((hz.over hb3 hz.pos).alloc _) ((hr.over hb3 hB).alloc _ (by omega)) hB hz.pos (by simp; omega) (by rw [← hz3]; simp [go_sem])
  have HF := Lib.hid hF
  have HG := Lib.hid hG
  clear ht hL hF hG hz hr hb3
  refine (callsIn_wide (n := 1)).1 ?_
  refine callsIn_of_wp_marks Tryd.func29 rfl trivial ?_ rfl
  simp only [Tryd.ntmps29, List.size_toArray, List.length_cons, List.length_nil, Nat.reduceAdd, Nat.reduceSub, Array.replicate_succ, Array.replicate_zero, List.push_toArray, List.append_toArray, List.nil_append, List.cons_append]
  gi_wp2_with fail
  rw [← hw3]
  refine ⟨trivial, (callsIn_wide.2 (each_any _ _ _ _)).mono ?_⟩
  rintro e w' ⟨rfl, rfl⟩
  rw [hz3]
  have HZ3 := Lib.hid hz3
  clear hw3 hz3
  gi_wp2
  have hz3 := HZ3.out
  refine range_gives (gf := 42) rfl (enters_of Tryd.func42 (by kernel_rfl) rfl) HG.out (fun _ => rfl) (by simp; omega) (fun k => k = w.heap.size + 1 + 1 + 1) (fun _ h => .inl h) (by rintro k rfl; simp; omega)
    (NoneYet w gf a (allL f n) p) (OneNow w gf a (allL f n) p) (fun M M' pre W W' h hb hs hm => ⟨h.1, h.2.1, h.2.2.over hb hs hm⟩)
    (fun c M M' pre W W' h hb hs hm => by obtain ⟨h1, q, r, h2, h3⟩ := h; exact ⟨h1, q, r, h2, h3.over hb hs hm⟩) ⟨rfl, List.nil_prefix, HF.out⟩ ?round ?done ?stop
  case round =>
    intro l M pre x W hl hM hlt hpre ⟨hno, _, hf⟩
    obtain ⟨q, r⟩ := x
    obtain ⟨bq0, bq1, br0, br1⟩ := HL.out (q, r) (hpre.subset (by simp))
    simp only at bq0 bq1 br0 br1
    have hz := hf.bel.size
    have HFd := Lib.hid hf
    have HP := Lib.hid hpre
    have HN := Lib.hid hno
    clear hf hpre hno
    dsimp only [encC]
    gi_wp2
    refine ⟨⟨(Below.refl _ _).alloc hz _, fun i _ hi => Below.heap_alloc _ _ _ hi⟩, fun o => ?_⟩
    obtain ⟨V, hV⟩ : ∃ V, V = (W.alloc (.cells #[.int .i64 q, .int .i64 r] 46)).putObj l o := ⟨_, rfl⟩
    rw [← hV]
    have hb2 : Below w.heap.size W V := by rw [hV]; exact ((Below.refl _ _).alloc hz _).trans (below_turned _ (by simp at hl; omega))
    have hs2 : ∀ i, i < W.heap.size → i ≠ l → V.heap[i]? = W.heap[i]? := fun i hi hn => by rw [hV]; exact (World.putObj_heap_other hn).trans (Below.heap_alloc _ _ _ hi)
    have hv := HFd.out.over (M' := M) hb2 (fun i hi hn => hs2 i hi (fun e => hn (e ▸ hM))) (fun i hi => .inl hi)
    have e0 : V.cell? ⟨W.heap.size, 0, none⟩ = some (.int .i64 q) := by
      rw [hV, World.cell?_of_block (a := ⟨W.heap.size, 0, none⟩) (World.putObj_heap_other (w := W.alloc _) (k := W.heap.size) (by omega))]
      simp [go_sem]
    have e1 : V.cell? ⟨W.heap.size, 1, none⟩ = some (.int .i64 r) := by
      rw [hV, World.cell?_of_block (a := ⟨W.heap.size, 1, none⟩) (World.putObj_heap_other (w := W.alloc _) (k := W.heap.size) (by omega))]
      simp [go_sem]
    have hWV : W.heap.size < V.heap.size := by have := World.block_lt_of_cell? V _ e0; exact this
    have hlk := hv.look
    have HV := Lib.hid hv
    clear hV hb2 hs2 hv
    gi_wp2_with fail
    refine ⟨trivial, (CallsIn.inRound l (callsIn_wide.2 (HT.out q r V bq0 bq1 br0 br1))).mono ?_⟩
    rintro e w1 ⟨rfl, hb1⟩
    have hv1 := HV.out.over (M' := M) (hb1.mono HV.out.bel.size) (fun i hi _ => hb1.block i hi) (fun i hi => .inl hi)
    have hk1 : Kept w.heap.size M V w1 := ⟨hb1.mono HV.out.bel.size, fun i _ hi => hb1.block i hi⟩
    have x0 : w1.cell? ⟨W.heap.size, 0, none⟩ = some (.int .i64 q) := (hb1.cell (p := ⟨W.heap.size, 0, none⟩) hWV).trans e0
    have x1 : w1.cell? ⟨W.heap.size, 1, none⟩ = some (.int .i64 r) := (hb1.cell (p := ⟨W.heap.size, 1, none⟩) hWV).trans e1
    have HK := Lib.hid hk1
    clear hb1 hk1 e0 e1 hlk
    cases hp : p (q, r)
    · have HQ := Lib.hid hp
      have HV1 := Lib.hid hv1
      clear hp hv1
      gi_wp2
      exact ⟨HK.out, find_none_snoc HN.out HQ.out, HP.out, HV1.out⟩
    · have HQ := Lib.hid (find_now HN.out hp HP.out)
      have a0 := hv1.at_
      have a1 := hv1.room
      have a2 := hv1.is
      have f0 := hv1.f0
      have f1 := hv1.f1
      have f2 := hv1.f2
      have HV1 := Lib.hid hv1
      clear hp hv1
      gi_wp2
      obtain ⟨hv2, hs2⟩ := HV1.out.stored true q r
      refine ⟨HK.out.trans ⟨(((Below.refl _ _).setCell (by simp; try omega) _).setCell (by simp; try omega) _).setCell (by simp; omega) _, fun k hk _ => hs2 k ?_ ?_⟩, rfl, q, r, HQ.out, hv2⟩
      · rintro rfl; exact hv2.m1 hk
      · rintro rfl; exact hv2.m2 hk
  case done =>
    intro D M W hD hDW hM ⟨hno, _, hf⟩ hdef
    have HN := Lib.hid hno
    have a0 := hf.at_
    have a1 := hf.room
    have a2 := hf.is
    have f0 := hf.f0
    have f1 := hf.f1
    have f2 := hf.f2
    have HFd := Lib.hid hf
    clear hno hf
    dsimp only
    gi_wp2
    obtain ⟨hv2, hs2⟩ := HFd.out.stored false 0 0
    refine leave_marks [D] _ (by simp) ?_ (fun W' h1 h2 h3 h4 h5 => ?_)
    · intro E hE
      obtain rfl : E = D := by simpa using hE
      exact (hs2 E (by rintro rfl; exact hv2.m1 hM) (by rintro rfl; exact hv2.m2 hM)).trans hdef
    · refine (hv2.over (M' := M) ⟨h1, h2, h3, by omega, fun k hk => h5 k (by simp at hD ⊢; omega)⟩ (fun k _ hk => h5 k (by simp; rintro rfl; exact hk hM)) (fun _ h => .inl h)).left _ rfl rfl ?_ ?_ ?_ <;> simp [foundV, foundS, HN.out]
  case stop =>
    rintro D _ M pre W hD hDW hM ⟨rfl, q, r, hfd, hf⟩ hdef
    have HFd := Lib.hid hf
    have HQ := Lib.hid hfd
    clear hf hfd
    dsimp only
    gi_wp2
    refine leave_marks [D] W (by simp) (by simpa using hdef) (fun W' h1 h2 h3 h4 h5 => ?_)
    refine (HFd.out.over (M' := M) ⟨h1, h2, h3, by omega, fun k hk => h5 k (by simp at hD ⊢; omega)⟩ (fun k _ hk => h5 k (by simp; rintro rfl; exact hk hM)) (fun _ h => .inl h)).left _ rfl rfl ?_ ?_ ?_ <;> simp [foundV, foundS, HQ.out]
end Go.Proofs.YtlmaeppckaempaaDoor
