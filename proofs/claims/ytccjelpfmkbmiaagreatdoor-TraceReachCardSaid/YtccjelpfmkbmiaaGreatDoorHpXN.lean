/-
  Merged texts: TrKp, TrR, TrC, TrIn, HpIns, HpLess, HpSix, AlIns, ShIns.
-/
import Derived.Test.YtccjelpfmkbmiaaGreatDoorHpXM
import Derived.Test.YtccjelpfmkbmiaaGreatDoorXHpOwn7
import Derived.Deep.LoopGhost
import Derived.Test.YtccjelpfmkbmiaaGreatDoorCards
import Derived.Test.YtccjelpfmkbmiaaGreatDoorTie
import Derived.Test.YtccjelpfmkbmiaaGreatDoorHpXG
import Derived.Deep.SlicePairs
import Derived.Deep.Slices
import Derived.Deep.Fields
import Derived.ProofKit
import Derived.OpenShut
import Derived.ShutString
import Derived.ChangeOld
import Derived.LaidMore
import Derived.Lib.LaidTab
import Derived.Stop.Joined
import Derived.SevenTiedAt
import Derived.Laws.IdiomArrays
import Derived.Test.YtccjelpfmkbmiaaGreatDoorHpXH
import Derived.Test.YtccjelpfmkbmiaaGreatDoorRows
import Derived.WalkKit
section
namespace Go.Proofs.YtccjelpfmkbmiaaGreatDoor.Tr
open Go.Proofs.YtccjelpfmkbmiaaGreatDoor Go.Proofs.YtccjelpfmkbmiaaGreatDoor.Rt
open Go.RowKit
open Go.Proofs.YtccjelpfmkbmiaaGreatDoor.Mu (hv kv)
set_option maxRecDepth 100000

/-- The copy: its box, its words in a block of their own. -/
structure Kp (w8 W : World) (bm : Nat) (t : Hs) (D : Hd_) (ws : List Int) : Prop where
  bel : Below w8.heap.size w8 W
  box : Box W bm (hv t)
  own : W.ownsRow w8.heap.size 3 1 (.slice t.w.a t.w.n t.w.c) t.w.n (ws.map (Value.int .i64))
  hp : Hp W W.heap.size t ⟨ws, D.f, D.F, D.cs⟩
  sep : ∀ x, t.w.a = some x → (0 < t.p.n → ∀ z, t.p.a = some z → ¬ z.block = x.block) ∧ (∀ j, j < 3 → 0 < (t.u j).n → ∀ z, (t.u j).a = some z → ¬ z.block = x.block) ∧ (0 < t.c.n → ∀ z, t.c.a = some z → ¬ z.block = x.block)
  bx : ∀ x, t.w.a = some x → ¬ bm = x.block
section
variable {w8 W W' : World} {bm : Nat} {t : Hs} {D : Hd_} {ws : List Int}
theorem Kp.next (h : Kp w8 W bm t D ws) (hb : Below W.heap.size W W') : Kp w8 W' bm t D ws := ⟨h.bel.trans (hb.mono h.bel.size), h.box.next hb, Sh.own_next h.own hb, h.hp.next hb, h.sep, h.bx⟩
/-- A word is stored. -/
theorem Kp.store (h : Kp w8 W bm t D ws) {g i : Nat} (ha : t.w.a = some ⟨g, 0, none⟩) (hm : Mine W w8.heap.size 3 g t.w.n t.w.c ws) (x : Int) : Kp w8 (W.setCell ⟨g, i, none⟩ (.int .i64 x)) bm t D (ws.set i x) := by
  have hs : ∀ k, ¬ k = g → (W.setCell ⟨g, i, none⟩ (.int .i64 x)).heap[k]? = W.heap[k]? := fun k hk => Below.heap_setCell _ _ _ _ hk
  have hz : (W.setCell ⟨g, i, none⟩ (.int .i64 x)).heap.size = W.heap.size := by simp [World.setCell]
  have hm' := hm.stored i x
  obtain ⟨s1, s2, s3⟩ := h.sep _ ha
  refine ⟨h.bel.setCell (p := ⟨g, i, none⟩) hm.2.1 _, h.box.same (hs bm (h.bx _ ha)) (by rw [hz]; exact Nat.le_refl _), ?_, ⟨?_, ?_, fun j hj => ⟨?_, (h.hp.free j hj).2⟩, ?_⟩, h.sep, h.bx⟩
  · have h2 := hm'.1
    rw [ha]
    exact h2
  · rw [hz]
    have := hm'.row
    rw [hz] at this
    show Row _ _ t.w.a t.w.n _
    rw [ha]
    exact this
  · rw [hz]
    exact Mu.prow_keep h.hp.pages fun h0 z hz' => hs z.block (s1 h0 z hz')
  · rw [hz]
    exact Mu.row_keep (h.hp.free j hj).1 fun h0 z hz' => hs z.block (s2 j hj h0 z hz')
  · rw [hz]
    exact Mu.brow_keep h.hp.cards fun h0 z hz' => hs z.block (s3 h0 z hz')
end
section
variable {s t : Hs} {d d' d2 : Hd_} {k : Sh.Ks} {xs : List Int} {mj : Bool} {ep a y u : Int}
/-- An object's head but for its mark, and whether it was gone through. -/
structure Keep1 (d d' : Hd_) (u : Int) : Prop where
  old : decide (wd d' u / 2 % 2 = 1) = decide (wd d u / 2 % 2 = 1)
  born : wd d' u / 1024 % 4194304 = wd d u / 1024 % 4194304
  n : nOf (wd d' u) = nOf (wd d u)
theorem Keep1.refl (d : Hd_) (u : Int) : Keep1 d d u := ⟨rfl, rfl, rfl⟩
theorem Keep1.trans (h : Keep1 d d' u) (g : Keep1 d' d2 u) : Keep1 d d2 u := ⟨g.old.trans h.old, g.born.trans h.born, g.n.trans h.n⟩
theorem keep_hd (hlen : d.ws.length = s.w.n) (he : headE s d a = 0) (e : Bool) {m : Int} (h0 : 0 ≤ m) (h1 : m ≤ 1048576) (hu : 16 ≤ u) : Keep1 d (Sh.dHd d a e m) u := by
  have T := Sh.hd_turned (lens_refl s) hlen he e h0 h1
  by_cases hy : u = a
  · subst hy
    have hx := (Sh.obj_of he).fits e h0 h1
    obtain ⟨p1, p2, p3, p4, p5, p6⟩ := Hd.word_parts hx
    have hw := Sh.hd_word hlen he e m
    have hn := (T.word hu).2.2.1
    refine ⟨?_, ?_, hn⟩
    · rw [hw]
      have := p2
      rw [decide_eq_decide]
      rw [this]
      simp
    · rw [hw]
      exact p5
  · have := T.oth u hu hy
    exact ⟨by rw [this], by rw [this], by rw [this]⟩
theorem sh_keep1 (hlen : d.ws.length = s.w.n) (hu : 16 ≤ u) : Keep1 d (Sh.shD s d mj ep a) u := by
  unfold Sh.shD
  split
  · next hc =>
    obtain ⟨h1, h2, _⟩ := Sh.isC_iff.1 hc
    exact keep_hd hlen h2 false h1.1 h1.2 hu
  · exact Keep1.refl d u
theorem bl_keep1 (hlen : d.ws.length = s.w.n) (hu : 16 ≤ u) : Keep1 d (Sh.blD s d mj ep a) u := by
  unfold Sh.blD
  split
  · next hc =>
    obtain ⟨_, h2, _⟩ := Sh.isC_iff.1 hc
    have p := (Sh.obj_of h2).parts
    exact keep_hd hlen h2 true p.2.2.2.2.1 p.2.2.2.2.2 hu
  · exact Keep1.refl d u
theorem col_le {q : Int} (h : colQ s d mj ep u = q → ¬ q = 0 → ∃ r, q ≤ r ∧ ¬ r = 0 ∧ Sh.isC s d' mj ep u r = true) : colQ s d mj ep u ≤ colQ s d' mj ep u ∨ ¬ colQ s d mj ep u = q := by
  by_cases e : colQ s d mj ep u = q
  · left
    by_cases h0 : q = 0
    · rw [e, h0]
      rcases col_four s d' mj ep u with g | g | g | g <;> omega
    · obtain ⟨r, h1, h2, h3⟩ := h e h0
      rw [e, (col_is h2).2 h3]
      exact h1
  · exact .inr e
theorem sh_le (hlen : d.ws.length = s.w.n) : colQ s d mj ep u ≤ colQ s (Sh.shD s d mj ep a) mj ep u := by
  rcases col_le (d' := Sh.shD s d mj ep a) (s := s) (d := d) (mj := mj) (ep := ep) (u := u) (q := colQ s d mj ep u) (fun _ h0 => by
    have hq := (col_is h0).1 (rfl : colQ s d mj ep u = colQ s d mj ep u)
    by_cases hc : Sh.isC s d mj ep a 1 = true ∧ u = a
    · refine ⟨2, ?_, by decide, by rw [Sh.sh_col (lens_refl s) hlen, if_pos hc]; rfl⟩
      obtain ⟨hc, rfl⟩ := hc
      have := one_col hq hc
      omega
    · exact ⟨_, Int.le_refl _, h0, by rw [Sh.sh_col (lens_refl s) hlen, if_neg hc]; exact hq⟩) with h | h
  · exact h
  · exact absurd rfl h
theorem bl_le (hlen : d.ws.length = s.w.n) : colQ s d mj ep u ≤ colQ s (Sh.blD s d mj ep a) mj ep u := by
  rcases col_le (d' := Sh.blD s d mj ep a) (s := s) (d := d) (mj := mj) (ep := ep) (u := u) (q := colQ s d mj ep u) (fun _ h0 => by
    have hq := (col_is h0).1 (rfl : colQ s d mj ep u = colQ s d mj ep u)
    by_cases hc : Sh.isC s d mj ep a 2 = true ∧ u = a
    · refine ⟨3, ?_, by decide, by rw [bl_col (lens_refl s) hlen, if_pos hc]; rfl⟩
      obtain ⟨hc, rfl⟩ := hc
      have := one_col hq hc
      omega
    · exact ⟨_, Int.le_refl _, h0, by rw [bl_col (lens_refl s) hlen, if_neg hc]; exact hq⟩) with h | h
  · exact h
  · exact absurd rfl h
/-- What a step keeps of each object; what else it keeps. -/
structure Kept1 (s : Hs) (d d' : Hd_) (mj : Bool) (ep : Int) : Prop where
  one : ∀ u, 16 ≤ u → Keep1 d d' u
  col : ∀ u, colQ s d mj ep u ≤ colQ s d' mj ep u
  oth : ∀ y, 16 ≤ y → ¬ y ∈ usedL s d → wd d' y = wd d y
  f : d'.f = d.f ∧ d'.F = d.F ∧ d'.cs = d.cs
theorem kept_refl (s : Hs) (d : Hd_) (mj : Bool) (ep : Int) : Kept1 s d d mj ep := ⟨fun u _ => Keep1.refl d u, fun _ => Int.le_refl _, fun _ _ _ => rfl, rfl, rfl, rfl⟩
theorem kept_sh (hlen : d.ws.length = s.w.n) (mj : Bool) (ep a : Int) : Kept1 s d (Sh.shD s d mj ep a) mj ep :=
  ⟨fun _ hu => sh_keep1 hlen hu, fun _ => sh_le hlen, fun _ hy hn => sh_wd hlen hy fun h => hn (by rw [h.2]; exact grey_used h.1), by unfold Sh.shD; split <;> exact ⟨rfl, rfl, rfl⟩⟩
theorem kept_bl (hlen : d.ws.length = s.w.n) (mj : Bool) (ep a : Int) : Kept1 s d (Sh.blD s d mj ep a) mj ep :=
  ⟨fun _ hu => bl_keep1 hlen hu, fun _ => bl_le hlen, fun _ hy hn => bl_wd hlen hy fun h => hn (by rw [h.2]; exact grey_used h.1), by unfold Sh.blD; split <;> exact ⟨rfl, rfl, rfl⟩⟩
theorem Kept1.trans (h : Kept1 s d d' mj ep) (hu : usedL s d' = usedL s d) (g : Kept1 s d' d2 mj ep) : Kept1 s d d2 mj ep :=
  ⟨fun u h16 => (h.one u h16).trans (g.one u h16), fun u => Int.le_trans (h.col u) (g.col u), fun y h16 hn => (g.oth y h16 (by rw [hu]; exact hn)).trans (h.oth y h16 hn), g.f.1.trans h.f.1, g.f.2.1.trans h.f.2.1, g.f.2.2.trans h.f.2.2⟩
theorem step_kept (hlen : d.ws.length = s.w.n) (k : Sh.Ks) (xs : List Int) : Kept1 s d (stepR s d k xs).d k.mj k.ep := by
  unfold stepR
  split
  · unfold onR
    split
    · unfold fieldR
      split
      · exact kept_refl s d _ _
      · split
        · exact (kept_sh hlen _ _ _).trans (sh_used hlen _ _ _) (kept_bl (by rw [sh_len]; exact hlen) _ _ _)
        · exact kept_sh hlen _ _ _
    · split
      · exact kept_refl s d _ _
      · split
        · rw [(seek_xs s d k xs).2]; exact kept_refl s d _ _
        · split <;> exact kept_refl s d _ _
  · exact kept_refl s d _ _
end
end Go.Proofs.YtccjelpfmkbmiaaGreatDoor.Tr
end
section
namespace Go.Proofs.YtccjelpfmkbmiaaGreatDoor.Tr
open Go.Proofs.YtccjelpfmkbmiaaGreatDoor Go.Proofs.YtccjelpfmkbmiaaGreatDoor.Sh
set_option maxRecDepth 100000

/-- What the grey ones lead to, through white ones. -/
inductive Rch (s : Hs) (d : Hd_) (mj : Bool) (ep : Int) : Int → Prop
  | grey {y : Int} : isC s d mj ep y 2 = true → Rch s d mj ep y
  | fld {u j : Int} : Rch s d mj ep u → 0 ≤ j → j < nOf (wd d u) → isC s d mj ep (wd d (u + 1 + j)) 1 = true → Rch s d mj ep (wd d (u + 1 + j))
section
variable {s t : Hs} {d d' d0 : Hd_} {k : Ks} {xs : List Int} {mj : Bool} {ep a y q B : Int} {P : Int → Prop}
theorem Rch.col (h : Rch s d mj ep y) : isC s d mj ep y 2 = true ∨ isC s d mj ep y 1 = true := by
  cases h with
  | grey h => exact .inl h
  | fld _ _ _ h => exact .inr h
theorem Rch.used (h : Rch s d mj ep y) : y ∈ usedL s d := by
  rcases h.col with h | h <;> exact grey_used h
theorem col_eq (h : ∀ q, ¬ q = 0 → isC s d' mj ep y q = isC s d mj ep y q) : colQ s d' mj ep y = colQ s d mj ep y := by
  by_cases e : colQ s d mj ep y = 0
  · refine Classical.byContradiction fun hn => ?_
    have h0 : ¬ colQ s d' mj ep y = 0 := by omega
    have h1 := (col_is h0).1 rfl
    rw [h _ h0] at h1
    have := (col_is h0).2 h1
    omega
  · have h1 := (col_is e).1 rfl
    rw [← h _ e] at h1
    exact (col_is e).2 h1
/-- What stands between steps, of the heap that was. -/
structure RchJ (s : Hs) (d0 d : Hd_) (mj : Bool) (ep : Int) : Prop where
  kept : Kept1 s d0 d mj ep
  used : usedL s d = usedL s d0
  only : ∀ y, ¬ Rch s d0 mj ep y → colQ s d mj ep y = colQ s d0 mj ep y
theorem rch_start (s : Hs) (d : Hd_) (mj : Bool) (ep : Int) : RchJ s d d mj ep := ⟨kept_refl s d mj ep, rfl, fun _ _ => rfl⟩
theorem RchJ.fld (h : RchJ s d0 d mj ep) {u j : Int} (hu : u ∈ usedL s d0) (h0 : 0 ≤ j) (h1 : j < nOf (wd d0 u)) : wd d (u + 1 + j) = wd d0 (u + 1 + j) :=
  h.kept.oth _ (by have := (Tr.fld_in (used_E hu)).1; omega) fun hm => fld_apart hu hm h0 h1 rfl
theorem step_rch (hlen : d.ws.length = s.w.n) (h : RchJ s d0 d k.mj k.ep) : RchJ s d0 (stepR s d k xs).d k.mj k.ep := by
  have hK := h.kept.trans h.used (step_kept hlen k xs)
  refine ⟨hK, (step_kin s d k xs hlen).used.trans h.used, fun y hy => ?_⟩
  rw [← h.only y hy]
  by_cases hm : mayB0 s d = true ∧ k.ph = 5
  · rw [step_on hm]
    rcases wh_cases k xs with e | e | e | e | e
    · rw [on_0 e]
      unfold fieldR
      split
      · rfl
      · next hc =>
        have hg : isC s d k.mj k.ep k.pa 2 = true := Classical.byContradiction fun hh => by
          have : fldN s d k = 0 := if_neg hh
          omega
        have hN : fldN s d k = nOf (wd d k.pa) := if_pos hg
        have hA : Rch s d0 k.mj k.ep k.pa := Classical.byContradiction fun hh => hh (.grey ((col_is (by decide)).1 ((h.only _ hh).symm.trans ((col_is (by decide)).2 hg))))
        have p16 := (Tr.fld_in (used_E hA.used)).1
        have hn0 : nOf (wd d k.pa) = nOf (wd d0 k.pa) := (h.kept.one _ p16).n
        have hF : fldV d k = wd d0 (k.pa + 1 + k.pf) := h.fld hA.used (by omega) (by omega)
        have hV : isC s d k.mj k.ep (fldV d k) 1 = true → Rch s d0 k.mj k.ep (fldV d k) := fun hw => Classical.byContradiction fun hh => hh (by
          have h1 := (col_is (by decide)).1 ((h.only _ hh).symm.trans ((col_is (by decide)).2 hw))
          rw [hF] at h1 ⊢
          exact .fld hA (by omega) (by omega) h1)
        have hsh : ∀ q, isC s (shD s d k.mj k.ep (fldV d k)) k.mj k.ep y q = isC s d k.mj k.ep y q := fun q => by
          rw [sh_col (lens_refl s) hlen, if_neg fun hh => hy (by rw [hh.2]; exact hV hh.1)]
        split
        · refine col_eq fun q _ => ?_
          show isC s (blD s (shD s d k.mj k.ep (fldV d k)) k.mj k.ep k.pa) k.mj k.ep y q = _
          rw [bl_col (lens_refl s) (by rw [sh_len]; exact hlen), if_neg fun hh => hy (by rw [hh.2]; exact hA)]
          exact hsh q
        · exact col_eq fun q _ => hsh q
    · rw [on_1 e]; rfl
    · rw [on_2 e, (seek_xs s d k xs).2]
    · rw [on_3 e]
    · rw [on_4 e]
  · rw [step_no hm]
/-- At the end. -/
theorem rch_end (h : RchJ s d0 d mj ep) (hno : ∀ z, ¬ isC s d mj ep z 2 = true) (hl : LedP (Rch s d0 mj ep) s d mj ep) (hy : Rch s d0 mj ep y) : colQ s d mj ep y = 3 := by
  have up : ∀ {z : Int}, Rch s d0 mj ep z → ¬ isC s d mj ep z 1 = true → colQ s d mj ep z = 3 := fun {z} hz h1 => by
    have hk := h.kept.col z
    have h2 := hno z
    rcases col_four s d mj ep z with g | g | g | g
    · rcases hz.col with c | c
      · have := (col_is (by decide)).2 c; omega
      · have := (col_is (by decide)).2 c; omega
    · exact absurd ((col_is (by decide)).1 g) h1
    · exact absurd ((col_is (by decide)).1 g) h2
    · exact g
  induction hy with
  | @grey v hg =>
    refine up (.grey hg) fun h1 => ?_
    have hk := h.kept.col v
    rw [(col_is (by decide)).2 hg, (col_is (by decide)).2 h1] at hk
    omega
  | @fld u j hu h0 h1 hw ih =>
    refine up (.fld hu h0 h1 hw) fun h2 => ?_
    have hn : nOf (wd d u) = nOf (wd d0 u) := (h.kept.one u (Tr.fld_in (used_E hu.used)).1).n
    refine hl u hu ((col_is (by decide)).1 ih) j h0 (by omega) ?_
    rw [h.fld hu.used h0 h1]
    exact h2
theorem rch_led : LedP (Rch s d mj ep) s d mj ep := fun u hu h3 => by
  rcases hu.col with h | h
  · have := one_col h h3; omega
  · have := one_col h h3; omega
/-- What holds behind j steps. -/
structure RchE (s : Hs) (d0 : Hd_) (mj : Bool) (ep B : Int) (j : Nat) (m : Q2) : Prop where
  len : Lens s m.s
  fine : Fine m.s m.d
  may : mayB0 s m.d = true
  ws : m.d.ws.length = s.w.n
  x : m.xs.length ≤ 4 + j
  kk : m.k.mj = mj ∧ m.k.ep = ep
  r : RchJ s d0 m.d mj ep
  st : (m.k.ph = 5 ∧ InvP (Rch s d0 mj ep) s m.d m.k m.xs ∧ left s m.d m.k m.xs + (j : Nat) ≤ B) ∨ (m.k.ph = 6 ∧ (∀ z, ¬ isC s m.d mj ep z 2 = true) ∧ LedP (Rch s d0 mj ep) s m.d mj ep)
theorem RchE.next {j : Nat} {m z : Q2} (h : RchE s d0 mj ep B j m) (h5 : m.k.ph = 5) (hl : Lens m.s z.s) (hd : z.d = (stepR m.s m.d m.k m.xs).d) (hx : z.xs = (stepR m.s m.d m.k m.xs).xs) (hk : z.k = kw (stepR m.s m.d m.k m.xs).k z.k.wk (stepR m.s m.d m.k m.xs).k.ov) : RchE s d0 mj ep B (j + 1) z := by
  have e := step_sim (d := m.d) (k := m.k) (xs := m.xs) (v := m.k.wk) h.len
  rw [show kw m.k m.k.wk m.k.ov = m.k from rfl] at e
  have hms : m.d.ws.length = m.s.w.n := by rw [h.ws]; exact h.len.1.symm
  have hkin := step_kin m.s m.d m.k m.xs hms
  have hkin' := step_kin s m.d m.k m.xs h.ws
  have hfz : Fine z.s z.d := by rw [hd]; exact fine_lens hl (hkin.fine h.fine)
  have hxl : z.xs.length ≤ 4 + (j + 1) := by rw [hx]; have := step_xs m.s m.d m.k m.xs; have := h.x; omega
  rw [e] at hd hx hk
  have hd' : z.d = (stepR s m.d m.k m.xs).d := hd
  have hx' : z.xs = (stepR s m.d m.k m.xs).xs := hx
  have hk' : z.k = kw (stepR s m.d m.k m.xs).k z.k.wk (stepR s m.d m.k m.xs).k.ov := hk
  have hi : InvP (Rch s d0 mj ep) s m.d m.k m.xs ∧ left s m.d m.k m.xs + (j : Nat) ≤ B := by
    rcases h.st with h | h
    · exact h.2
    · exact absurd h.1 (by omega)
  have hin := step_inv h.ws h.may h5 hi.1
  have hls := left_step h.ws h.may h5 hi.1
  have hsw := known_sweep (s := s) (d := m.d) (k := m.k) (xs := m.xs) hi.1.known
  have hS := step_same s m.d m.k m.xs
  have hr : RchJ s d0 (stepR s m.d m.k m.xs).d mj ep := by
    have := step_rch h.ws (k := m.k) (xs := m.xs) (d0 := d0) (by rw [h.kk.1, h.kk.2]; exact h.r)
    rwa [h.kk.1, h.kk.2] at this
  refine ⟨lens_trans' h.len hl, hfz, by rw [hd', hkin'.may]; exact h.may, by rw [hd']; exact hkin'.wlen.trans h.ws, hxl, ?_, by rw [hd']; exact hr, ?_⟩
  · rw [hk']
    exact ⟨hS.1.trans h.kk.1, hS.2.trans h.kk.2⟩
  rw [hd', hx', hk']
  rcases hls with ⟨g5, gl⟩ | ⟨g6, go⟩
  · refine .inl ⟨g5, ⟨hin.known, hin.led, hin.pf, hin.at_⟩, ?_⟩
    have : left s (stepR s m.d m.k m.xs).d (kw (stepR s m.d m.k m.xs).k z.k.wk (stepR s m.d m.k m.xs).k.ov) (stepR s m.d m.k m.xs).xs = left s (stepR s m.d m.k m.xs).d (stepR s m.d m.k m.xs).k (stepR s m.d m.k m.xs).xs := rfl
    rw [this]
    have := hi.2
    omega
  · have h1 := hsw g6 h5
    have h2 := hin.led
    rw [hS.1, hS.2, h.kk.1, h.kk.2] at h1 h2
    refine .inr ⟨g6, fun z hz => ?_, h2⟩
    have := grey_mem.2 hz
    rw [h1] at this
    cases this
/-- No step is left once as many were taken. -/
theorem RchE.lt {j : Nat} {m : Q2} {N : Int} (h : RchE s d0 mj ep B j m) (h5 : m.k.ph = 5) (hB : B < N) : (j : Int) < N := by
  rcases h.st with ⟨_, hi, hl⟩ | ⟨h6, _⟩
  · have := left_pos hi
    omega
  · omega
/-- At the end. -/
theorem RchE.out {j : Nat} {m : Q2} (h : RchE s d0 mj ep B j m) (h5 : ¬ m.k.ph = 5) : m.k.ph = 6 ∧ (∀ y, Rch s d0 mj ep y → colQ m.s m.d m.k.mj m.k.ep y = 3) ∧ ∀ y, ¬ Rch s d0 mj ep y → colQ m.s m.d m.k.mj m.k.ep y = colQ s d0 mj ep y := by
  have hc : ∀ y, colQ m.s m.d m.k.mj m.k.ep y = colQ s m.d mj ep y := fun y => by
    rw [h.kk.1, h.kk.2]
    unfold colQ
    rw [(head_lens h.len m.d y).1]
  rcases h.st with ⟨h5', _⟩ | ⟨h6, hno, hl⟩
  · exact absurd h5' h5
  · exact ⟨h6, fun y hy => (hc y).trans (rch_end h.r hno hl hy), fun y hy => (hc y).trans (h.r.only y hy)⟩
theorem start_rch (hm : mayB0 s d = true) (hf : Fine s d) (hws : d.ws.length = s.w.n) (h5 : k.ph = 5) (hkn : Known s d k xs) (hx : xs.length ≤ 4) (hpa : k.pa = 0) (hpf : k.pf = 0) : RchE s d k.mj k.ep (left s d k xs) 0 ⟨s, k, d, xs⟩ :=
  ⟨lens_refl s, hf, hm, hws, hx, ⟨rfl, rfl⟩, rch_start s d k.mj k.ep, .inl ⟨h5, ⟨hkn, rch_led, by rw [hpf]; exact Int.le_refl 0, fun h => by rw [show k.pa = 0 from hpa] at h; exact absurd h isC_zero⟩, by simp⟩⟩
end
end Go.Proofs.YtccjelpfmkbmiaaGreatDoor.Tr
end
section
namespace Go.Proofs.YtccjelpfmkbmiaaGreatDoor.Tr
open Go.Proofs.YtccjelpfmkbmiaaGreatDoor Go.Proofs.YtccjelpfmkbmiaaGreatDoor.Sh
set_option maxRecDepth 100000

/-- A row without twins lies in another one: it is no longer. -/
theorem nodup_le : ∀ {R U : List Int}, R.Nodup → (∀ y ∈ R, y ∈ U) → R.length ≤ U.length
  | [], _, _, _ => Nat.zero_le _
  | x :: R, U, hn, h => by
    have hn' := List.nodup_cons.1 hn
    have hx := h x (by simp)
    have ih := nodup_le (R := R) (U := U.erase x) hn'.2 fun y hy => (List.mem_erase_of_ne fun e => hn'.1 (by rw [← e]; exact hy)).2 (h y (by simp [hy]))
    rw [List.length_erase_of_mem hx] at ih
    have : 0 < U.length := List.length_pos_of_mem hx
    rw [List.length_cons]
    omega
section
variable {s : Hs} {d : Hd_} {mj : Bool} {ep y v u : Int} {R R1 : List Int} {q m : Nat}
/-- All that is grey, and some of what it leads to. -/
structure Clo (s : Hs) (d : Hd_) (mj : Bool) (ep : Int) (R : List Int) : Prop where
  sub : ∀ y ∈ R, Rch s d mj ep y
  gr : ∀ y, isC s d mj ep y 2 = true → y ∈ R
  nd : R.Nodup
/-- An object's fields, from the first one to behind the r-th, have no white one that the row has not. -/
def ShutF (s : Hs) (d : Hd_) (mj : Bool) (ep : Int) (R : List Int) (u : Int) (r : Nat) : Prop := ∀ j : Nat, 1 ≤ j → j < r → isC s d mj ep (wd d (u + j)) 1 = true → wd d (u + j) ∈ R
/-- The row that was, and what came behind it; the first q are gone through. -/
structure Grown (s : Hs) (d : Hd_) (mj : Bool) (ep : Int) (R1 R : List Int) (q : Nat) : Prop where
  clo : Clo s d mj ep R
  pre : ∃ X, R = R1 ++ X
  shut : ∀ p, p < q → ShutF s d mj ep R (R1.getD p 0) ((nOf (wd d (R1.getD p 0))).toNat + 1)
theorem clo_start (s : Hs) (d : Hd_) (mj : Bool) (ep : Int) : Clo s d mj ep (greyL s d mj ep) :=
  ⟨fun y hy => .grey (grey_mem.1 hy), fun y hy => grey_mem.2 hy, by
    unfold greyL
    refine List.Pairwise.filter _ ?_
    exact (used_rise s d).imp fun h => by omega⟩
theorem Clo.len (h : Clo s d mj ep R) : R.length ≤ 512 := Nat.le_trans (nodup_le h.nd fun y hy => (h.sub y hy).used) (Nat.le_trans (used_len s d) (allS_len d.f s.p.n))
theorem Clo.add (h : Clo s d mj ep R) (hu : u ∈ R) {j : Nat} (h1 : 1 ≤ j) (h2 : (j : Int) ≤ nOf (wd d u)) (hw : isC s d mj ep (wd d (u + j)) 1 = true) (hn : ¬ wd d (u + j) ∈ R) : Clo s d mj ep (R ++ [wd d (u + j)]) :=
  ⟨fun y hy => by
    rcases List.mem_append.1 hy with hy | hy
    · exact h.sub y hy
    · have e : y = wd d (u + j) := by simpa using hy
      have h3 := Rch.fld (h.sub u hu) (j := (j : Int) - 1) (by omega) (by omega) (by rw [show u + 1 + ((j : Int) - 1) = u + j by omega]; exact hw)
      rw [show u + 1 + ((j : Int) - 1) = u + j by omega] at h3
      rw [e]
      exact h3, fun y hy => List.mem_append.2 (.inl (h.gr y hy)), List.nodup_append.2 ⟨h.nd, by simp, fun a ha b hb e => hn (by rw [← (show b = wd d (u + j) by simpa using hb), ← e]; exact ha)⟩⟩
theorem ShutF.more (h : ShutF s d mj ep R u q) (v : Int) : ShutF s d mj ep (R ++ [v]) u q := fun j h1 h2 hw => List.mem_append.2 (.inl (h j h1 h2 hw))
theorem ShutF.next (h : ShutF s d mj ep R u q) (hq : isC s d mj ep (wd d (u + q)) 1 = true → wd d (u + q) ∈ R) : ShutF s d mj ep R u (q + 1) := fun j h1 h2 hw => by
  by_cases e : j = q
  · subst e; exact hq hw
  · exact h j h1 (by omega) hw
theorem shut_one : ShutF s d mj ep R u 1 := fun j h1 h2 => by omega
theorem grown_start (h : Clo s d mj ep R) : Grown s d mj ep R R 0 := ⟨h, ⟨[], by simp⟩, fun p hp => by omega⟩
theorem Grown.add (h : Grown s d mj ep R1 R q) (hu : u ∈ R) {j : Nat} (h1 : 1 ≤ j) (h2 : (j : Int) ≤ nOf (wd d u)) (hw : isC s d mj ep (wd d (u + j)) 1 = true) (hn : ¬ wd d (u + j) ∈ R) : Grown s d mj ep R1 (R ++ [wd d (u + j)]) q :=
  ⟨h.clo.add hu h1 h2 hw hn, by obtain ⟨X, e⟩ := h.pre; exact ⟨X ++ [wd d (u + j)], by rw [e, List.append_assoc]⟩, fun p hp => (h.shut p hp).more _⟩
theorem Grown.next (h : Grown s d mj ep R1 R q) (hs : ShutF s d mj ep R (R1.getD q 0) ((nOf (wd d (R1.getD q 0))).toNat + 1)) : Grown s d mj ep R1 R (q + 1) :=
  ⟨h.clo, h.pre, fun p hp => by
    by_cases e : p = q
    · subst e; exact hs
    · exact h.shut p (by omega)⟩
/-- What stands at a place of the row that was stands there. -/
theorem Grown.get (h : Grown s d mj ep R1 R q) {p : Nat} (hp : p < R1.length) : R.getD p 0 = R1.getD p 0 ∧ R.getD p 0 ∈ R ∧ p < R.length := by
  obtain ⟨X, e⟩ := h.pre
  subst e
  have h1 : p < (R1 ++ X).length := by rw [List.length_append]; omega
  refine ⟨by simp [List.getD, List.getElem?_append_left hp], ?_, h1⟩
  simp only [List.getD, List.getElem?_eq_getElem h1, Option.getD_some]
  exact List.getElem_mem h1
theorem Grown.le (h : Grown s d mj ep R1 R q) : R1.length ≤ R.length := by
  obtain ⟨X, e⟩ := h.pre
  rw [e, List.length_append]
  omega
/-- Nothing came behind it: it is just what the grey ones lead to. -/
theorem Grown.done (h : Grown s d mj ep R1 R R1.length) (he : R.length = R1.length) (y : Int) : y ∈ R ↔ Rch s d mj ep y := by
  refine ⟨h.clo.sub y, fun hy => ?_⟩
  obtain ⟨X, e⟩ := h.pre
  have hX : X = [] := List.eq_nil_of_length_eq_zero (by rw [e, List.length_append] at he; omega)
  rw [hX, List.append_nil] at e
  subst e
  induction hy with
  | grey hg => exact h.clo.gr _ hg
  | @fld u j hu h0 h1 hw ih =>
    obtain ⟨p, hp, ep'⟩ := List.mem_iff_getElem.1 ih
    have hg : R.getD p 0 = u := by simp [List.getD, hp, ep']
    have hs := h.shut p hp
    rw [hg] at hs
    have := hs (j.toNat + 1) (by omega) (by omega)
    rw [show u + ((j.toNat + 1 : Nat) : Int) = u + 1 + j by omega] at this
    exact this hw
end
end Go.Proofs.YtccjelpfmkbmiaaGreatDoor.Tr
end
section
namespace Go.Proofs.YtccjelpfmkbmiaaGreatDoor.Tr
open Go.Proofs.YtccjelpfmkbmiaaGreatDoor Go.Proofs.YtccjelpfmkbmiaaGreatDoor.Rt
open Go.RowKit
set_option maxRecDepth 100000

set_option maxHeartbeats 2000000 in
theorem in_any (w : World) (B : Nat) (A : Option Addr) (n c : Nat) (xs : List Int) (a : Int) (hn : n ≤ 4000000) (hr : Row w B A n xs) : Calls Tryz.prog 36 #[.slice A n c, .int .i64 a] w fun e w' => e = .returned (.bool (decide (a ∈ xs))) ∧ Below w.heap.size w w' := by
  have hl := hr.1
  have HL := Lib.hid hl
  have HR := Lib.hid hr
  clear hl hr
  go_enter Tryz.func36, Tryz.ntmps36
  go_wp2
  go_loopw [5] (fun i wr => ∃ k : Nat, k ≤ n ∧ i = .int .i64 k ∧ wr = w ∧ Hid (∀ p, p < k → ¬ xs.getD p 0 = a)) (fun i _ => n - (intOf i).toNat)
  case atStart => exact ⟨0, Nat.zero_le _, rfl, rfl, Lib.hid fun p hp => absurd hp (by omega)⟩
  case round =>
    obtain ⟨k, hk, rfl, rfl, HA⟩ := hrel
    by_cases hlt : k < n
    · obtain ⟨b, off, rfl, _, hc⟩ := HR.out.2 (by omega)
      have h1 := hc k hlt
      have hlt' : (k : Int) < n := by omega
      have i0 : (0 : Int) ≤ k := by omega
      have HK := Lib.hid hlt
      clear hc
      obtain ⟨x, hx⟩ : ∃ x, x = xs.getD k 0 := ⟨_, rfl⟩
      rw [← hx] at h1
      have HX := Lib.hid hx
      clear hx
      by_cases he : x = a
      · have e1 : decide (x = a) = true := decide_eq_true he
        have e2 : (x == a) = true := e1
        have HM : Hid (decide (a ∈ xs) = true) := Lib.hid (decide_eq_true (by
          rw [← he, HX.out]
          have : k < xs.length := by have := HL.out; have := HK.out; omega
          simp [List.getD, this]))
        clear he
        go_wp2
        go_ret
        exact ⟨by rw [HM.out]; rfl, Below.refl _ _⟩
      · have e1 : decide (x = a) = false := decide_eq_false he
        have e2 : (x == a) = false := e1
        have HB : Hid (∀ p, p < k + 1 → ¬ xs.getD p 0 = a) := Lib.hid fun p hp => by
          by_cases hpk : p = k
          · rw [hpk, ← HX.out]; exact he
          · exact HA.out p (by omega)
        clear he
        go_wp2
        go_roundw
        case rel => exact ⟨k + 1, by omega, by go_num, by first | rfl | trivial, HB⟩
        case measure => simp [intOf]; omega
    · have hlt' : ¬ (k : Int) < n := by omega
      have e1 : decide ((k : Int) < n) = false := decide_eq_false hlt'
      have HM : Hid (decide (a ∈ xs) = false) := Lib.hid (decide_eq_false fun hm => by
        obtain ⟨p, hp, e⟩ := List.mem_iff_getElem.1 hm
        exact HA.out p (by have := HL.out; omega) (by simp [List.getD, hp, e]))
      go_wp2
      go_ret
      exact ⟨by rw [HM.out]; rfl, Below.refl _ _⟩
end Go.Proofs.YtccjelpfmkbmiaaGreatDoor.Tr
end
section
namespace Go.Proofs.YtccjelpfmkbmiaaGreatDoor
open Go.ChangeShapes Go.WideShapes Go.ChangeAt Go.RowKit Go.Deep
set_option maxRecDepth 100000

theorem own : ownKnob Tryz.prog.godebug = none := by kernel_rfl
theorem laidOut : laidOutB Tryz.prog = true := by kernel_rfl
def laidSizes : List (String × DataW Unit) := [("ragpicker/class.sizes", Rows.laid_ragpicker_class_sizes)]
theorem gSizes : Tryz.prog.globalNamed "ragpicker/class.sizes" = some 0 := by kernel_rfl
theorem tSizes : (Tryz.prog.globals[0]?).map (·.type) = some 151 := by kernel_rfl
theorem cInt : Tryz.prog.cellsOf 3 = 1 := by kernel_rfl
theorem cSizes : Tryz.prog.cellsOf 151 = 3 := by kernel_rfl
theorem of_laid {W : World} (h : laidMetH Tryz.prog laidSizes W) : Cl.Sz W := by
  rw [MakeChecks.laidMetH_plain _ _ _ (by kernel_rfl)] at h
  have hT : Lib.TabIs Tryz.prog W "ragpicker/class.sizes" .i64 [2, 4, 8] := Lib.tabIs_of_head gSizes tSizes Tryz.underlying151 Tryz.underlying3 cInt cSizes h
  exact ⟨hT.cell gSizes 0 (by decide), hT.cell gSizes 1 (by decide), hT.cell gSizes 2 (by decide)⟩
theorem door_met (os : Os) (args : Array Value) : laidMetH Tryz.prog laidSizes ((World.doorLaid Tryz.prog 400 os).forCall (fun _ _ => 0) ⟨#[], args, []⟩).memory :=
  laidMetH_of_parts3 (fuel := 8) (laidMet_of_run' 8 (by kernel_rfl) (by kernel_rfl)) (by kernel_rfl) (by kernel_rfl)

/-- How much a reading holds. -/
theorem bulk_one {H : Type} (d : DataW H) : 1 ≤ Rows.uptoBulk d := by
  cases d <;> first | (simp only [Rows.uptoBulk]; omega) | (rename_i l; cases l <;> simp [Rows.uptoBulk])
theorem bulk_long {H : Type} : ∀ l : List (DataW H), l.length ≤ Rows.uptoBulkAll l
  | [] => by simp [Rows.uptoBulkAll]
  | x :: r => by
    have h1 := bulk_one x
    have h2 := bulk_long r
    simp only [Rows.uptoBulkAll, List.length_cons]
    omega
theorem bulk_slice {H : Type} (l r : List (DataW H)) : l.length ≤ Rows.uptoBulk (.slice l r) := by
  have := bulk_long l
  simp only [Rows.uptoBulk]
  omega
theorem wf_bounds {n : Int} (h : (Lit.int .i64 n).wf = true) : -9223372036854775808 ≤ n ∧ n ≤ 9223372036854775807 := by
  simpa [Lit.wf, IntKind.min, IntKind.max, IntKind.signed, IntKind.bits] using h
def Fit64 (zs : List Int) : Prop := ∀ i, -9223372036854775808 ≤ zs.getD i 0 ∧ zs.getD i 0 ≤ 9223372036854775807
/-- A slice of numbers that comes in. -/
theorem ints_in {H : Type} {enc : TypeId × Value → H} {w : World} {base : Nat} {spare : Nat → Bool} {held : Bool} {fuel : Nat} {cs : List Value} {x : DataW H × List MemPlace}
    (h : DataW.trod enc Tryz.prog w base spare held fuel 22 cs = some x) :
    ∃ (s : Ls.Sl) (zs : List Int), cs = [.slice s.a s.n s.c] ∧ (Row w w.heap.size s.a s.n zs ∧ s.n ≤ s.c ∧ s.c ≤ maxLen) ∧ s.n ≤ Rows.uptoBulk x.1 ∧ Fit64 zs := by
  rcases open_ints Tryz.underlying22 Tryz.underlying3 (by kernel_rfl) h with ⟨rfl, rfl⟩ | ⟨y, len, cap, zs, rfl, _, hl, hm, hz, rfl, hcell, hwz⟩
  · exact ⟨⟨none, 0, 0⟩, [], rfl, ⟨Row.none_ _ _, Nat.le_refl _, by show (0 : Nat) ≤ maxLen; unfold maxLen; omega⟩, Nat.zero_le _, fun i => by simp⟩
  · have hz' : len ≤ zs.length := by rw [hz]; split <;> omega
    refine ⟨⟨some y, len, cap⟩, zs.take len, rfl, ⟨⟨by simp; omega, fun hn => ?_⟩, hl, hm⟩, ?_, fun i => ?_⟩
    · have hn' : 0 < len := hn
      obtain ⟨b, off, spot⟩ := y
      have h0 := hcell 0 (by omega)
      have hs : spot = none := by simpa [Addr.add] using World.cell?_spot h0
      subst hs
      refine ⟨b, off, rfl, ?_, fun i hi => ?_⟩
      · have := World.block_lt_of_cell? w _ h0
        simpa [Addr.add] using this
      · have hi' : i < len := hi
        have := hcell i (by omega)
        rw [Addr.add_lit] at this
        rw [this]
        simp [List.getD, hi']
    · have := bulk_slice (H := H) (lits .i64 (zs.take len)) (lits .i64 (zs.drop len))
      have e : (lits (H := H) .i64 (zs.take len)).length = len := by simp [lits]; omega
      show len ≤ Rows.uptoBulk (DataW.slice (lits .i64 (zs.take len)) (lits .i64 (zs.drop len)))
      rw [e] at this
      exact this
    · by_cases hi : i < len
      · have hi2 : i < zs.length := by omega
        have h1 := hwz (zs.getD i 0) (getD_mem hi2)
        rw [show (zs.take len).getD i 0 = zs.getD i 0 by simp [List.getD, hi]]
        exact wf_bounds h1
      · rw [show (zs.take len).getD i 0 = 0 by simp [List.getD, List.getElem?_eq_none (show (zs.take len).length ≤ i by simp; omega)]]
        omega
theorem bools_in {H : Type} {enc : TypeId × Value → H} {w : World} {base : Nat} {spare : Nat → Bool} {held : Bool} {fuel : Nat} {cs : List Value} {x : DataW H × List MemPlace}
    (h : DataW.trod enc Tryz.prog w base spare held fuel 26 cs = some x) : ∃ (s : Ls.Sl) (f : Nat → Bool), cs = [.slice s.a s.n s.c] ∧ BRow w w.heap.size s.a s.n f := by
  rcases open_slice Tryz.underlying26 h with ⟨hcs, _⟩ | ⟨y, len, cap, m, k, D, Pl, hcs, _, hl, hm, hmm, _, hi⟩
  · exact ⟨⟨none, 0, 0⟩, fun _ => false, hcs, fun h0 => absurd h0 (by simp)⟩
  · have hm' : len ≤ m := by rw [hmm]; split <;> omega
    have each : ∀ i, i < len → ∃ v : Bool, w.cell? ((y.add (i * 1)).add 0) = some (.bool v) := by
      intro i hlt
      obtain ⟨cs', h1, h2⟩ := hi i (by omega)
      have ce : Tryz.prog.cellsOf 4 = 1 := by kernel_rfl
      rw [ce] at h1
      obtain ⟨_, hlen, hcell⟩ := World.cells?_some h1
      match cs', hlen with
      | [c0], _ =>
        obtain ⟨v, e, _⟩ := DataW.trod_bool Tryz.underlying4 h2
        simp only [List.cons.injEq, and_true] at e
        subst e
        exact ⟨v, by simpa using hcell 0 (by decide)⟩
    obtain ⟨q, hq⟩ := choose_lt each
    refine ⟨⟨some y, len, cap⟩, q, hcs, fun hn => ?_⟩
    have hn' : 0 < len := hn
    obtain ⟨b, off, spot⟩ := y
    have h0 := hq 0 hn'
    have hs : spot = none := by simpa [Addr.add] using World.cell?_spot h0
    subst hs
    refine ⟨b, off, rfl, ?_, fun i hlt => ?_⟩
    · have := World.block_lt_of_cell? w _ h0
      simpa [Addr.add] using this
    · have := hq i hlt
      rw [Addr.add_lit, Addr.add_lit, Nat.mul_one] at this
      exact this
/-- Three of them. -/
def tri {α : Type} (a b c : α) : Nat → α
  | 0 => a
  | 1 => b
  | _ => c
theorem lists_in {H : Type} {enc : TypeId × Value → H} {w : World} {base : Nat} {spare : Nat → Bool} {held : Bool} {fuel : Nat} {c0 c1 c2 : Value} {x : DataW H × List MemPlace}
    (h : DataW.trod enc Tryz.prog w base spare held fuel 25 [c0, c1, c2] = some x) :
    ∃ (u : Nat → Ls.Sl) (f : Nat → List Int), [c0, c1, c2] = [.slice (u 0).a (u 0).n (u 0).c, .slice (u 1).a (u 1).n (u 1).c, .slice (u 2).a (u 2).n (u 2).c] ∧ Ls.L3 w w.heap.size u f ∧ (u 0).n + (u 1).n + (u 2).n ≤ Rows.uptoBulk x.1 := by
  obtain ⟨y0, y1, y2, n, rfl, h0, h1, h2⟩ := trod_array3 Tryz.underlying25 (by kernel_rfl) h
  obtain ⟨s0, z0, e0, r0, b0, _⟩ := ints_in h0
  obtain ⟨s1, z1, e1, r1, b1, _⟩ := ints_in h1
  obtain ⟨s2, z2, e2, r2, b2, _⟩ := ints_in h2
  simp only [List.cons.injEq, and_true] at e0 e1 e2
  refine ⟨tri s0 s1 s2, tri z0 z1 z2, by rw [e0, e1, e2]; rfl, fun j hj => ?_, ?_⟩
  · match j, hj with
    | 0, _ => exact r0
    | 1, _ => exact r1
    | 2, _ => exact r2
  · simp only [Rows.uptoBulk, Rows.uptoBulkAll, tri]
    omega
end Go.Proofs.YtccjelpfmkbmiaaGreatDoor
end
section
namespace Go.Proofs.YtccjelpfmkbmiaaGreatDoor
open Go.ChangeShapes Go.WideShapes Go.ChangeAt Go.RowKit Go.Deep
set_option maxRecDepth 100000

end Go.Proofs.YtccjelpfmkbmiaaGreatDoor
end
section
namespace Go.Proofs.YtccjelpfmkbmiaaGreatDoor
open Go.ChangeShapes Go.WideShapes Go.ChangeAt Go.RowKit Go.Deep

section
variable {H : Type} {enc : TypeId × Value → H} {P : Program} {w : World} {base : Nat} {spare : Nat → Bool} {held : Bool}

end
end Go.Proofs.YtccjelpfmkbmiaaGreatDoor
end
section
namespace Go.Proofs.YtccjelpfmkbmiaaGreatDoor
open Go.ChangeShapes Go.WideShapes Go.ChangeAt Go.RowKit Go.Deep
set_option maxRecDepth 100000

theorem pin_cap {H : Type} {enc : TypeId × Value → H} {w : World} {base : Nat} {spare : Nat → Bool} {held : Bool} {fuel : Nat} {cs : List Value} {x : DataW H × List MemPlace}
    (h : DataW.trod enc Tryz.prog w base spare held fuel 23 cs = some x) : ∃ (s : Ls.Sl) (f : Nat → Int × Int), cs = [.slice s.a s.n s.c] ∧ Cl.PRow w w.heap.size s.a s.n f ∧ s.n ≤ s.c := by
  rcases open_slice_pairs Tryz.underlying23 Tryz.underlying81 (by kernel_rfl) rfl rfl (by kernel_rfl) (by kernel_rfl) h with ⟨hcs, _⟩ | ⟨x, l, c, m, n, V0, V1, D0, D1, P0, P1, hcs, _, hl, hm, hmm, _, hi⟩
  · exact ⟨⟨none, 0, 0⟩, fun _ => (0, 0), hcs, Cl.PRow.empty _ _ _ _, Nat.le_refl _⟩
  · refine ⟨⟨some x, l, c⟩, fun i => (intOf (V0 i), intOf (V1 i)), hcs, fun hn => ?_, hl⟩
    have hn' : 0 < l := hn
    have hm' : l ≤ m := by rw [hmm]; split <;> omega
    obtain ⟨b, off, spot⟩ := x
    have h0 := (hi 0 (by omega)).1
    have hs : spot = none := by simpa [Addr.add] using World.cell?_spot h0
    subst hs
    refine ⟨b, off, rfl, ?_, fun i hlt => ?_⟩
    · have := World.block_lt_of_cell? w _ h0
      simpa [Addr.add] using this
    · have hlt' : i < l := hlt
      obtain ⟨g0, g1, t0, t1⟩ := hi i (by omega)
      rw [Addr.add_lit] at g0 g1
      rw [← Nat.add_assoc] at g1
      obtain ⟨z0, e0, _⟩ := DataW.trod_int Tryz.underlying3 t0
      obtain ⟨z1, e1, _⟩ := DataW.trod_int Tryz.underlying3 t1
      simp only [List.cons.injEq, and_true] at e0 e1
      refine ⟨?_, ?_⟩
      · show _ = some (Value.int .i64 (intOf (V0 i)))
        rw [g0, e0]
        rfl
      · show _ = some (Value.int .i64 (intOf (V1 i)))
        rw [g1, e1]
        rfl
theorem heap_of8 {H : Type} {enc : TypeId × Value → H} {w : World} {base b0 : Nat} {spare : Nat → Bool} {held : Bool} {v : Value} {d : DataW H} {p : List MemPlace} {r : Reach}
    (hv : Value.okWide Tryz.prog w r b0 28 v) (h : DataW.Trod enc Tryz.prog w base spare held 28 v d p) :
    ∃ (s : Hs) (e : Hd_), v = (.agg #[.slice s.w.a s.w.n s.w.c, .slice s.p.a s.p.n s.p.c, .slice (s.u 0).a (s.u 0).n (s.u 0).c, .slice (s.u 1).a (s.u 1).n (s.u 1).c, .slice (s.u 2).a (s.u 2).n (s.u 2).c, .slice s.c.a s.c.n s.c.c]) ∧ Hp w w.heap.size s e ∧ Fit64 e.ws ∧ s.p.n ≤ s.p.c := by
  obtain ⟨⟨l⟩, rfl, hsz⟩ := okWide_struct Tryz.underlying28 hv
  obtain ⟨fuel, hf⟩ := h
  obtain ⟨xs, k, _, hx, hl, hlen, hg⟩ := DataW.trod_struct Tryz.underlying28 hf
  have hl6 : l.length = 6 := hsz.trans (by kernel_rfl)
  match l, hl6, xs, hlen with
  | [c0, c1, c2, c3, c4, c5], _, [y0, y1, y2, y3], _ =>
    have e22 : Tryz.prog.cellsOf 22 = 1 := by kernel_rfl
    have e23 : Tryz.prog.cellsOf 23 = 1 := by kernel_rfl
    have e25 : Tryz.prog.cellsOf 25 = 3 := by kernel_rfl
    have e26 : Tryz.prog.cellsOf 26 = 1 := by kernel_rfl
    have g0 : DataW.trod enc Tryz.prog w base spare held k 22 [c0] = some y0 := by have := hg 0 _ rfl; simpa [e22, Value.cells] using this
    have g1 : DataW.trod enc Tryz.prog w base spare held k 23 [c1] = some y1 := by have := hg 1 _ rfl; simpa [e23, Value.cells] using this
    have g2 : DataW.trod enc Tryz.prog w base spare held k 25 [c2, c3, c4] = some y2 := by have := hg 2 _ rfl; simpa [e25, Value.cells] using this
    have g3 : DataW.trod enc Tryz.prog w base spare held k 26 [c5] = some y3 := by have := hg 3 _ rfl; simpa [e26, Value.cells] using this
    obtain ⟨s0, zs, h0, r0, _, f0⟩ := ints_in g0
    obtain ⟨s1, f1, h1, r1, c1'⟩ := pin_cap g1
    obtain ⟨u, F, h2, r2, _⟩ := lists_in g2
    obtain ⟨s3, f3, h3, r3⟩ := bools_in g3
    simp only [List.cons.injEq, and_true] at h0 h1 h2 h3
    obtain ⟨rfl, rfl, rfl⟩ := h2
    subst h0 h1 h3
    refine ⟨⟨s0, s1, u, s3⟩, ⟨zs, f1, F, f3⟩, rfl, ⟨r0.1, r1, r2, r3⟩, f0, c1'⟩
end Go.Proofs.YtccjelpfmkbmiaaGreatDoor
end
section
namespace Go.Proofs.YtccjelpfmkbmiaaGreatDoor.Sh
open Go.Proofs.YtccjelpfmkbmiaaGreatDoor
open Go.ChangeShapes Go.WideShapes Go.ChangeAt Go.RowKit Go.Deep
set_option maxRecDepth 100000

theorem col_of {H : Type} {enc : TypeId × Value → H} {w : World} {base b0 : Nat} {spare : Nat → Bool} {held : Bool} {v : Value} {d : DataW H} {p : List MemPlace} {r : Reach}
    (hv : Value.okWide Tryz.prog w r b0 30 v) (h : DataW.Trod enc Tryz.prog w base spare held 30 v d p) :
    ∃ (k : Ks) (xs : List Int), v = (.agg #[.int .i64 k.ph, .int .i64 k.ep, .bool k.mj, .slice k.wk.a k.wk.n k.wk.c, .bool k.ov, .int .i64 k.pa, .int .i64 k.pf, .int .i64 k.ps, .int .i64 k.pc, .bool k.me]) ∧ WRow w w.heap.size k xs ∧ k.wk.n ≤ k.wk.c ∧ k.wk.c ≤ maxLen ∧ (Lit.int .i64 k.ep).wf = true := by
  obtain ⟨⟨l⟩, rfl, hsz⟩ := okWide_struct Tryz.underlying30 hv
  obtain ⟨fuel, hf⟩ := h
  obtain ⟨xs, k, _, hx, hl, hlen, hg⟩ := DataW.trod_struct Tryz.underlying30 hf
  have hl10 : l.length = 10 := hsz.trans (by kernel_rfl)
  match l, hl10, xs, hlen with
  | [c0, c1, c2, c3, c4, c5, c6, c7, c8, c9], _, [y0, y1, y2, y3, y4, y5, y6, y7, y8, y9], _ =>
    have e1 : Tryz.prog.cellsOf 3 = 1 := by kernel_rfl
    have e2 : Tryz.prog.cellsOf 4 = 1 := by kernel_rfl
    have e3 : Tryz.prog.cellsOf 22 = 1 := by kernel_rfl
    have g0 : DataW.trod enc Tryz.prog w base spare held k 3 [c0] = some y0 := by have := hg 0 _ rfl; simpa [e1, Value.cells] using this
    have g1 : DataW.trod enc Tryz.prog w base spare held k 3 [c1] = some y1 := by have := hg 1 _ rfl; simpa [e1, Value.cells] using this
    have g2 : DataW.trod enc Tryz.prog w base spare held k 4 [c2] = some y2 := by have := hg 2 _ rfl; simpa [e2, Value.cells] using this
    have g3 : DataW.trod enc Tryz.prog w base spare held k 22 [c3] = some y3 := by have := hg 3 _ rfl; simpa [e3, Value.cells] using this
    have g4 : DataW.trod enc Tryz.prog w base spare held k 4 [c4] = some y4 := by have := hg 4 _ rfl; simpa [e2, Value.cells] using this
    have g5 : DataW.trod enc Tryz.prog w base spare held k 3 [c5] = some y5 := by have := hg 5 _ rfl; simpa [e1, Value.cells] using this
    have g6 : DataW.trod enc Tryz.prog w base spare held k 3 [c6] = some y6 := by have := hg 6 _ rfl; simpa [e1, Value.cells] using this
    have g7 : DataW.trod enc Tryz.prog w base spare held k 3 [c7] = some y7 := by have := hg 7 _ rfl; simpa [e1, Value.cells] using this
    have g8 : DataW.trod enc Tryz.prog w base spare held k 3 [c8] = some y8 := by have := hg 8 _ rfl; simpa [e1, Value.cells] using this
    have g9 : DataW.trod enc Tryz.prog w base spare held k 4 [c9] = some y9 := by have := hg 9 _ rfl; simpa [e2, Value.cells] using this
    obtain ⟨n0, h0, _, _⟩ := DataW.trod_int Tryz.underlying3 g0
    obtain ⟨n1, h1, _, w1⟩ := DataW.trod_int Tryz.underlying3 g1
    obtain ⟨n2, h2, _⟩ := DataW.trod_bool Tryz.underlying4 g2
    obtain ⟨s3, zs, h3, r3, _, _⟩ := ints_in g3
    obtain ⟨n4, h4, _⟩ := DataW.trod_bool Tryz.underlying4 g4
    obtain ⟨n5, h5, _, _⟩ := DataW.trod_int Tryz.underlying3 g5
    obtain ⟨n6, h6, _, _⟩ := DataW.trod_int Tryz.underlying3 g6
    obtain ⟨n7, h7, _, _⟩ := DataW.trod_int Tryz.underlying3 g7
    obtain ⟨n8, h8, _, _⟩ := DataW.trod_int Tryz.underlying3 g8
    obtain ⟨n9, h9, _⟩ := DataW.trod_bool Tryz.underlying4 g9
    simp only [List.cons.injEq, and_true] at h0 h1 h2 h3 h4 h5 h6 h7 h8 h9
    subst h0 h1 h2 h3 h4 h5 h6 h7 h8 h9
    exact ⟨⟨n0, n1, n2, s3, n4, n5, n6, n7, n8, n9⟩, zs, rfl, r3.1, r3.2.1, r3.2.2, w1⟩
end Go.Proofs.YtccjelpfmkbmiaaGreatDoor.Sh
end
