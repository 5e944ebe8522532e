/-
  Merged texts: LsRPart, PgRefTake, PgSame, PgRefDrop, RpRefB, RpCopied, RpPl, RpEach, RpFlush, RpFree, HpSetRA, HpSetR, RpRefO, AlRefP.
-/
import Derived.Test.YtdmclfolooiccaaGreatDoorALsRMove
import Derived.Test.YtdmclfolooiccaaGreatDoorHpAN
import Derived.Test.YtdmclfolooiccaaGreatDoorHpAE
import Derived.Test.YtdmclfolooiccaaGreatDoorHpAT
import Derived.Test.YtdmclfolooiccaaGreatDoorHpAK
import Derived.Test.YtdmclfolooiccaaGreatDoorHpAD
import Derived.Test.YtdmclfolooiccaaGreatDoorHpAM
import Derived.Test.YtdmclfolooiccaaGreatDoorHpAP
import Derived.Deep.Cut
import Derived.Deep.CutRange
import Derived.Test.YtdmclfolooiccaaGreatDoorHpAL
import Derived.Test.YtdmclfolooiccaaGreatDoorHpAH
import Derived.Test.YtdmclfolooiccaaGreatDoorHpAQ
import Derived.Test.YtdmclfolooiccaaGreatDoorARpOwn9
section
namespace Go.Proofs.YtdmclfolooiccaaGreatDoor.Ls
open Go.Proofs.YtdmclfolooiccaaGreatDoor
set_option maxRecDepth 100000
open Go.RowKit

/-- A slice of one's own. -/
def tOne (base : Nat) (p : Sl) (zs : List Int) : Thing :=
  ⟨fun b => ∃ x, p.a = some x ∧ x.block = b, fun w => w.ownsRow base 3 1 (.slice p.a p.n p.c) p.n (zs.map (Value.int .i64)), fun _ _ h _ hs => World.ownsRow.same h (fun g hg _ => hs g (by
    rw [ownBlock_slice] at hg
    cases hx : p.a with
    | none => rw [hx] at hg; cases hg
    | some x =>
      rw [hx] at hg
      simp at hg
      exact ⟨x, rfl, hg⟩))⟩
structure PtR (w wr : World) (R : Nat → Option Thing) (d : Nat) (u V : Nat → Sl) (G : Nat → List Int) (p : Sl) (zs : List Int) : Prop where
  lst : Lst w.heap.size w wr R d V G
  part : R 4 = some (tOne w.heap.size p zs)
  ubox : R 3 = some (tBox w.heap.size u)
  res8 : R 2 = some (tBox (w.heap.size + 1) noSl)
section
variable {w wr w2 : World} {R : Nat → Option Thing} {d k : Nat} {u V : Nat → Sl} {G : Nat → List Int} {p s : Sl} {zs xs : List Int} {o : Obj}
theorem PtR.own (h : PtR w wr R d u V G p zs) : wr.ownsRow w.heap.size 3 1 (.slice p.a p.n p.c) p.n (zs.map (Value.int .i64)) := (h.lst.res.ok 4 _ h.part).1
theorem PtR.b8 (h : PtR w wr R d u V G p zs) : Box3 wr (w.heap.size + 1) noSl := h.lst.res.box h.res8
theorem PtR.len (h : PtR w wr R d u V G p zs) : p.n = zs.length := by have := h.own.1; simpa using this.symm
theorem PtR.row (h : PtR w wr R d u V G p zs) (o : Obj) : (wr.alloc o).ownsRow w.heap.size 3 1 (.slice p.a p.n p.c) p.n (zs.map (Value.int .i64)) :=
  World.ownsRow.same h.own (fun _ _ hlt => Below.heap_alloc _ _ _ hlt)
/-- Not in: appended to the class. -/
theorem PtR.no (h : PtR w wr R d u V G p zs) (hk : k < 3) (hc : Catted (wr.alloc o) w.heap.size (.slice (V k).a (V k).n (V k).c) s xs w2) :
    ∃ R', PtR w (w2.setCell ⟨d, k, none⟩ (.slice s.a s.n s.c)) R' d u (upd V k s) (upd G k xs) p zs := by
  obtain ⟨R', hL, hK⟩ := h.lst.cat hk hc
  exact ⟨R', hL, (hK 4 (by decide)).trans h.part, (hK 3 (by decide)).trans h.ubox, (hK 2 (by decide)).trans h.res8⟩
/-- In: appended to those that are parted. -/
theorem PtR.yes (h : PtR w wr R d u V G p zs) (hc : Catted (wr.alloc o) w.heap.size (.slice p.a p.n p.c) s xs w2) : ∃ R', PtR w w2 R' d u V G s xs := by
  have hs : (wr.alloc o).heap.size = wr.heap.size + 1 := by simp
  have R1 := h.lst.res.change (w' := w2) h.lst.big h.part (hc.grown.os.trans rfl) (hc.grown.tape.trans rfl) (hc.grown.output.trans rfl) (by have := hc.grown.size; omega) (fun b hb hbk => by
    refine (hc.grown.block b (by omega) (fun e => hbk ?_)).trans (Below.heap_alloc _ _ _ hb)
    rw [ownBlock_slice] at e
    cases hx : p.a with
    | none => rw [hx] at e; cases e
    | some x =>
      rw [hx] at e
      simp at e
      exact ⟨x, hx, e.symm⟩) (tOne w.heap.size s xs) hc.own (fun b ⟨x, hx, e⟩ => by
    subst e
    refine ⟨?_, (own_block hc.own hx).2⟩
    rcases hc.lies x hx with e | e
    · left
      rw [ownBlock_slice] at e
      cases hy : p.a with
      | none => rw [hy] at e; cases e
      | some y =>
        rw [hy] at e
        simp at e
        exact ⟨y, hy, e⟩
    · right
      omega)
  refine ⟨_, ⟨R1, ?_, ?_, by have := h.lst.big; have := hc.grown.size; omega⟩, upd_same _ _ _, ?_, ?_⟩
  · rw [upd_other _ _ (by decide)]; exact h.lst.own
  · rw [upd_other _ _ (by decide)]; exact h.lst.box
  · rw [upd_other _ _ (by decide)]; exact h.ubox
  · rw [upd_other _ _ (by decide)]; exact h.res8
theorem PtR.out (h : PtR w wr R d u V G p zs) : ∀ W, W = put3 wr (w.heap.size + 1) V → PartOut w G zs 0 (.returned (.tuple #[(.agg #[.slice (V 0).a (V 0).n (V 0).c, .slice (V 1).a (V 1).n (V 1).c, .slice (V 2).a (V 2).n (V 2).c]), .slice p.a p.n p.c, .int .i64 0])) W := by
  rintro W rfl
  have R1 := h.lst.res.put h.lst.big h.res8 V
  have O := R1.own (r := 0) (by rw [upd_other _ _ (by decide)]; exact h.lst.own)
  have P := (R1.ok 4 (tOne w.heap.size p zs) (by rw [upd_other _ _ (by decide)]; exact h.part)).1
  obtain ⟨a1, c1, e1, r1, l1, m1⟩ := owns_row P
  simp only [Value.slice.injEq, true_and] at e1
  obtain ⟨rfl, rfl⟩ := e1
  exact ⟨V, p, rfl, O.l3, ⟨r1, l1, m1⟩, R1.bel⟩
end
end Go.Proofs.YtdmclfolooiccaaGreatDoor.Ls
end
section
namespace Go.Proofs.YtdmclfolooiccaaGreatDoor.Cl
open Go.Proofs.YtdmclfolooiccaaGreatDoor
set_option maxRecDepth 100000
open Go.RowKit

theorem wpList_pcopied {w : World} {ops : Array Oper} {rest : List Oper} {o : Oper} {a : Act} {Q : Exit → Act → World → Prop} (hgd : o.guard = none) (s x : Operand)
    (ho : o.op = .call { callee := .builtin .append, args := #[s, x], argTypes := #[23, 23] }) (hs : a.eval s = .slice none 0 0)
    (B : Nat) (A : Option Addr) (n c : Nat) (f : Nat → Int × Int) (hx : a.eval x = .slice A n c) (hr : PRow w B A n f) (hn : 0 < n) (hbig : n ≤ 1000)
    (h : ∀ g c' w', PMine w' w.heap.size 74 g n c' f → Below w.heap.size w w' → wpList Tryz.prog ops Q rest (a.put o.dst (.slice (some ⟨g, 0, none⟩) n c')) w') : wpList Tryz.prog ops Q (o :: rest) a w := by
  obtain ⟨i0, hi, hz0, hz1, hz2⟩ := info_parts info_page
  obtain ⟨b, off, rfl, _, hc⟩ := hr hn
  refine wpList_append_own (P := Tryz.prog) w hgd s x 23 ho w.heap.size 74 i0 (.agg #[.int .i64 0, .int .i64 0]) 2 16 Tryz.underlying23 hi hz0 hz1 hz2 rfl (by decide) _ 0 [] hs (World.ownsRow_nil _ _ _ _) ⟨b, off, none⟩ n c (pcells f n) hx ?_ ?_ ?_ ?_ ?_ ?_ ?_
  · exact pcells_length f n
  · intro j u hj
    rw [Addr.add_lit]
    exact pcells_of hc j u hj
  · exact pcells_one
  · unfold maxLen; omega
  · omega
  · exact Nat.le_refl _
  · intro v' w1 hown hgrow _
    have hown' : w1.ownsRow w.heap.size 74 2 v' n (pcells f n) := by simpa using hown
    obtain ⟨g, c', rfl, hm⟩ := pmine_of hown' hn
    exact h g c' w1 hm ((Below.refl _ w).grown hgrow (Nat.le_refl _) (by intro k hk; cases hk))

theorem one_free {f : Nat → Int × Int} {a : Nat} : freeB f a 1 = ((f a).1 == 0) := by simp [freeB, List.range_succ]

end Go.Proofs.YtdmclfolooiccaaGreatDoor.Cl
end
section
namespace Go.Proofs.YtdmclfolooiccaaGreatDoor.Cl
open Go.Proofs.YtdmclfolooiccaaGreatDoor
set_option maxRecDepth 100000
open Go.RowKit

set_option maxHeartbeats 1000000 in
theorem same_yes (B B' : Nat) (A A' : Option Addr) (n c c' : Nat) (f g : Nat → Int × Int) (w : World) (hn : n ≤ 1000) (he : ∀ i, i < n → g i = f i) (hr : PRow w B A n f) (hr' : PRow w B' A' n g) (hB : B ≤ w.heap.size) (hB' : B' ≤ w.heap.size) :
    Calls Tryz.prog 36 #[.slice A n c, .slice A' n c'] w fun e w' => e = .returned (.bool true) ∧ Below w.heap.size w w' := by
  have HR := Lib.hid hr
  have HR' := Lib.hid (hr'.congr (fun i hi => (he i hi).symm))
  clear hr hr' he
  go_enter Tryz.func36, Tryz.ntmps36
  go_wp2
  go_loopw [5] (fun i wr => ∃ k : Nat, k ≤ n ∧ i = .int .i64 k ∧ Below w.heap.size w wr) (fun i _ => n - (intOf i).toNat)
  case atStart => exact ⟨0, Nat.zero_le _, rfl, Below.refl _ _⟩
  case round =>
    obtain ⟨k, hk, rfl, hb⟩ := hrel
    by_cases hlt : k < n
    · obtain ⟨b, off, rfl, hbB, hc⟩ := (HR.out.over hb hB) (by omega)
      obtain ⟨p0, p1⟩ := hc k hlt
      obtain ⟨b', off', rfl, hbB', hc'⟩ := (HR'.out.over hb hB') (by omega)
      obtain ⟨q0, q1⟩ := hc' k hlt
      have HB := Lib.hid hb
      have hz := hb.size
      have HQ := pneq_no (a := (f k).1) (b := (f k).2) ⟨rfl, rfl⟩
      clear hb hc hc'
      go_wp2
      go_quiet (fail)
      go_wp2
      go_roundw
      case rel => exact ⟨k + 1, by omega, by go_num, below_drewN HB.out _⟩
      case measure => simp [intOf]; omega
    · go_wp2
      go_ret
      exact ⟨rfl, hb⟩
end Go.Proofs.YtdmclfolooiccaaGreatDoor.Cl
end
section
namespace Go.Proofs.YtdmclfolooiccaaGreatDoor.Cl
open Go.Proofs.YtdmclfolooiccaaGreatDoor
set_option maxRecDepth 100000
open Go.RowKit

end Go.Proofs.YtdmclfolooiccaaGreatDoor.Cl
end
section
namespace Go.Proofs.YtdmclfolooiccaaGreatDoor
open Go.RowKit
section
variable (s : Hs) (d : Hd_) (p : Nat) (w : World)
end
end Go.Proofs.YtdmclfolooiccaaGreatDoor
end
section
namespace Go.Proofs.YtdmclfolooiccaaGreatDoor
open Go.RowKit
set_option maxRecDepth 100000

/-- The box that a call holds its heap in, and its result's. -/
structure Rr (w W : World) (t : Hs) (d : Hd_) : Prop where
  ro : Ro w W w.heap.size t d
  rm : Rm W (w.heap.size + 1) noHs
section
variable {w W W' : World} {t : Hs} {d : Hd_}
theorem Rr.next (h : Rr w W t d) (hb : Below W.heap.size W W') : Rr w W' t d := ⟨h.ro.next hb, h.rm.next hb⟩
theorem Rr.drew (h : Rr w W t d) : Rr w W.drew t d := h.next (below_drawn' (Below.refl _ _) 1)
theorem Rr.words (h : Rr w W t d) (v : Ls.Sl) (ws : List Int) (hr : Row W W.heap.size v.a v.n ws) : Rr w (W.setCell ⟨w.heap.size, 0, none⟩ (.slice v.a v.n v.c)) ⟨v, t.p, t.u, t.c⟩ ⟨ws, d.f, d.F, d.cs⟩ := ⟨h.ro.words v ws hr, h.rm.same (set_others _ (by omega)) (Nat.le_of_eq set_size.symm)⟩
theorem Rr.pages (h : Rr w W t d) (v : Ls.Sl) (f : Nat → Int × Int) (hr : Cl.PRow W W.heap.size v.a v.n f) : Rr w (W.setCell ⟨w.heap.size, 1, none⟩ (.slice v.a v.n v.c)) ⟨t.w, v, t.u, t.c⟩ ⟨d.ws, f, d.F, d.cs⟩ := ⟨h.ro.pages v f hr, h.rm.same (set_others _ (by omega)) (Nat.le_of_eq set_size.symm)⟩
theorem Rr.cards (h : Rr w W t d) (v : Ls.Sl) (cs : Nat → Bool) (hr : BRow W W.heap.size v.a v.n cs) : Rr w (W.setCell ⟨w.heap.size, 5, none⟩ (.slice v.a v.n v.c)) ⟨t.w, t.p, t.u, v⟩ ⟨d.ws, d.f, d.F, cs⟩ := ⟨h.ro.cards v cs hr, h.rm.same (set_others _ (by omega)) (Nat.le_of_eq set_size.symm)⟩
theorem Rr.free3 (h : Rr w W t d) (v : Nat → Ls.Sl) (F : Nat → List Int) (hl : Ls.L3 W W.heap.size v F) : Rr w (((W.setCell ⟨w.heap.size, 2, none⟩ (.slice (v 0).a (v 0).n (v 0).c)).setCell ⟨w.heap.size, 3, none⟩ (.slice (v 1).a (v 1).n (v 1).c)).setCell ⟨w.heap.size, 4, none⟩ (.slice (v 2).a (v 2).n (v 2).c)) ⟨t.w, t.p, v, t.c⟩ ⟨d.ws, d.f, F, d.cs⟩ := ⟨h.ro.free3 v F hl, h.rm.same (set3_others _ (by omega)) (by simp)⟩
theorem prow_set {b k : Nat} {v : Value} {n : Nat} {a : Option Addr} {f : Nat → Int × Int} (hS : Slices W b) (h : Cl.PRow W W.heap.size a n f) : Cl.PRow (W.setCell ⟨b, k, none⟩ v) (W.setCell ⟨b, k, none⟩ v).heap.size a n f := fun hn => by
  obtain ⟨b', off, e, hlt, hc⟩ := h hn
  rw [set_size]
  refine ⟨b', off, e, hlt, fun i hi => ?_⟩
  have hb' := set_others (W := W) (b := b) (k := k) (v := v) b' (hS.prow h hn _ e)
  exact ⟨(World.cell?_of_block (a := ⟨b', off + i * 2, none⟩) hb').trans (hc i hi).1, (World.cell?_of_block (a := ⟨b', off + i * 2 + 1, none⟩) hb').trans (hc i hi).2⟩
theorem brow_set {b k : Nat} {v : Value} {n : Nat} {a : Option Addr} {f : Nat → Bool} (hS : Slices W b) (h : BRow W W.heap.size a n f) : BRow (W.setCell ⟨b, k, none⟩ v) (W.setCell ⟨b, k, none⟩ v).heap.size a n f := fun hn => by
  obtain ⟨b', off, e, hlt, hc⟩ := h hn
  rw [set_size]
  exact ⟨b', off, e, hlt, fun i hi => (World.cell?_of_block (a := ⟨b', off + i, none⟩) (set_others (W := W) (b := b) (k := k) (v := v) b' (hS.brow h hn _ e))).trans (hc i hi)⟩
/-- Words, pages and cards are stored at once. -/
theorem Rr.three (h : Rr w W t d) (vw vp vc : Ls.Sl) (hw : Row W W.heap.size vw.a vw.n d.ws) (hp : Cl.PRow W W.heap.size vp.a vp.n d.f) (hc : BRow W W.heap.size vc.a vc.n d.cs) :
    Rr w (((W.setCell ⟨w.heap.size, 0, none⟩ (.slice vw.a vw.n vw.c)).setCell ⟨w.heap.size, 1, none⟩ (.slice vp.a vp.n vp.c)).setCell ⟨w.heap.size, 5, none⟩ (.slice vc.a vc.n vc.c)) ⟨vw, vp, t.u, vc⟩ d := by
  have h1 := h.words vw d.ws hw
  have h2 := h1.pages vp d.f (prow_set h.ro.rm.sl hp)
  exact h2.cards vc d.cs (brow_set h1.ro.rm.sl (brow_set h.ro.rm.sl hc))
end
end Go.Proofs.YtdmclfolooiccaaGreatDoor
end
section
namespace Go.Proofs.YtdmclfolooiccaaGreatDoor
open Go.RowKit
set_option maxRecDepth 100000

def behind (F : Nat → Nat → List Int) : Nat → Nat → List Int := fun i => F (i + 1)
section
variable {s t : Hs} {d : Hd_} {a : Int} {m : Nat} {F : Nat → Nat → List Int}
end
/-- How pages change behind flushTo: each by itself. -/
def giv (d : Hd_) (m : Nat) (j : Nat) (x : Int) : Bool := decide ((x / 16 - 1).toNat < m ∧ 16 ≤ x) && (givenB d (x / 16 - 1).toNat && decide ((d.f (x / 16 - 1).toNat).2.toNat = j))
theorem giv_range {d : Hd_} {m j p : Nat} {x : Int} (hx : 16 + 16 * (p : Int) ≤ x ∧ x < 32 + 16 * (p : Int)) (hp : m ≤ p) : giv d m j x = false := by
  unfold giv
  rw [decide_eq_false (by omega)]
  rfl
structure Flushed (d : Hd_) (m : Nat) (d' : Hd_) : Prop where
  f : ∀ p, d'.f p = if p < m ∧ givenB d p = true then (0, 0) else d.f p
  F : ∀ j, d'.F j = (d.F j).filter fun x => !giv d m j x
theorem filter_in {d : Hd_} {m p k : Nat} (hp : m ≤ p) (xs : List Int) : Ls.inOf (16 + 16 * (p : Int)) (32 + 16 * (p : Int)) (xs.filter fun x => !giv d m k x) = Ls.inOf (16 + 16 * (p : Int)) (32 + 16 * (p : Int)) xs := by
  unfold Ls.inOf
  rw [List.filter_filter]
  refine List.filter_congr fun x _ => ?_
  cases h : Ls.isIn (16 + 16 * (p : Int)) (32 + 16 * (p : Int)) x
  · rfl
  · rw [giv_range (isIn_iff.1 h) hp]
    rfl
theorem Flushed.given {d d' : Hd_} {m p : Nat} (h : Flushed d m d') (hp : m ≤ p) : d'.f p = d.f p ∧ onFree d' p = onFree d p ∧ givenB d' p = givenB d p := by
  have e1 : d'.f p = d.f p := by rw [h.f, if_neg (by omega)]
  have e2 : onFree d' p = onFree d p := by unfold onFree; rw [e1, h.F, filter_in hp]
  exact ⟨e1, e2, by unfold givenB; rw [e1, e2]⟩
end Go.Proofs.YtdmclfolooiccaaGreatDoor
end
section
namespace Go.Proofs.YtdmclfolooiccaaGreatDoor
open Go.RowKit
set_option maxRecDepth 100000

end Go.Proofs.YtdmclfolooiccaaGreatDoor
end
section
namespace Go.Proofs.YtdmclfolooiccaaGreatDoor
open Go.RowKit
set_option maxRecDepth 100000

theorem hp_none (W : World) : Hp W W.heap.size noHs dNone := ⟨Row.none_ _ _, fun h => absurd h (Nat.lt_irrefl 0), Ls.L3.none_ _ _, fun h => absurd h (Nat.lt_irrefl 0)⟩
/-- What a walk through Flush has in memory. -/
structure Fl (w W : World) (s : Hs) (d : Hd_) (u : Nat → Ls.Sl) (G : Nat → List Int) : Prop where
  bel : Below w.heap.size w W
  hb : HBox W w.heap.size s
  cb : Ls.Box3 W (w.heap.size + 1) u
  rm : Rm W (w.heap.size + 2) noHs
  hp : Hp W W.heap.size s d
  l3 : Ls.L3 W W.heap.size u G
section
variable {w W W' : World} {s t : Hs} {d : Hd_} {u : Nat → Ls.Sl} {G : Nat → List Int} {k bb : Nat}
theorem Fl.next (h : Fl w W s d u G) (hb : Below W.heap.size W W') : Fl w W' s d u G := ⟨h.bel.trans (hb.mono h.bel.size), h.hb.next hb, h.cb.next hb, h.rm.next hb, h.hp.next hb, h.l3.next hb⟩
/-- What stands at the head of Flush's loop. -/
structure FlAt (w wr : World) (s : Hs) (d : Hd_) (u : Nat → Ls.Sl) (G : Nat → List Int) (bb k : Nat) (t : Hs) : Prop where
  ro : Ro w wr bb t (joinTo d G k)
  rm : Rm wr (w.heap.size + 2) noHs
  l3 : Ls.L3 wr wr.heap.size u G
  ln : t.w.n = s.w.n ∧ t.p.n = s.p.n ∧ t.c.n = s.c.n
  lo : w.heap.size + 3 ≤ bb
theorem FlAt.next {wr w1 : World} (h : FlAt w wr s d u G bb k t) (hb : Below wr.heap.size wr w1) : FlAt w w1 s d u G bb k t := ⟨h.ro.next hb, h.rm.next hb, h.l3.next hb, h.ln, h.lo⟩
theorem FlAt.step {wr : World} (h : FlAt w wr s d u G bb k t) (v : Nat → Ls.Sl) (hv : Ls.L3 wr wr.heap.size v (joinTo d G (k + 1)).F) : FlAt w (((wr.setCell ⟨bb, 2, none⟩ (.slice (v 0).a (v 0).n (v 0).c)).setCell ⟨bb, 3, none⟩ (.slice (v 1).a (v 1).n (v 1).c)).setCell ⟨bb, 4, none⟩ (.slice (v 2).a (v 2).n (v 2).c)) s d u G bb (k + 1) ⟨t.w, t.p, v, t.c⟩ :=
  ⟨h.ro.free3 v _ hv, h.rm.same (set3_others _ (by have := h.lo; omega)) (by simp), l3_turn h.ro.rm.sl h.l3 set3_others (by simp), h.ln, h.lo⟩
end
section
variable (s : Hs) (u : Nat → Ls.Sl) (d : Hd_) (G : Nat → List Int) (w : World)
end
end Go.Proofs.YtdmclfolooiccaaGreatDoor
end
section
namespace Go.Proofs.YtdmclfolooiccaaGreatDoor
open Go.RowKit
set_option maxRecDepth 100000

/-- What a walk through Free has in memory, behind the copy. -/
structure FrR (w W : World) (s : Hs) (bb : Nat) (t : Hs) (d : Hd_) : Prop where
  ro : Ro w W bb t d
  rm : Rm W (w.heap.size + 1) noHs
  lo : w.heap.size + 2 ≤ bb
  ln : t.w.n = s.w.n ∧ t.p.n = s.p.n ∧ t.c.n = s.c.n
section
variable {w W W' : World} {s t : Hs} {d : Hd_} {bb : Nat}
theorem FrR.next (h : FrR w W s bb t d) (hb : Below W.heap.size W W') : FrR w W' s bb t d := ⟨h.ro.next hb, h.rm.next hb, h.lo, h.ln⟩
theorem FrR.drew (h : FrR w W s bb t d) : FrR w W.drew s bb t d := h.next (below_drawn' (Below.refl _ _) 1)
theorem FrR.words (h : FrR w W s bb t d) {g c : Nat} {ws : List Int} {wb : Nat} (hm : Mine W wb 3 g t.w.n c ws) : FrR w (W.setCell ⟨bb, 0, none⟩ (.slice (some ⟨g, 0, none⟩) t.w.n c)) s bb ⟨⟨some ⟨g, 0, none⟩, t.w.n, c⟩, t.p, t.u, t.c⟩ ⟨ws, d.f, d.F, d.cs⟩ :=
  ⟨h.ro.words ⟨some ⟨g, 0, none⟩, t.w.n, c⟩ ws hm.row, h.rm.same (set_others _ (by have := h.lo; omega)) (Nat.le_of_eq set_size.symm), h.lo, h.ln⟩
theorem FrR.free3 (h : FrR w W s bb t d) (v : Nat → Ls.Sl) (F : Nat → List Int) (hv : Ls.L3 W W.heap.size v F) : FrR w (((W.setCell ⟨bb, 2, none⟩ (.slice (v 0).a (v 0).n (v 0).c)).setCell ⟨bb, 3, none⟩ (.slice (v 1).a (v 1).n (v 1).c)).setCell ⟨bb, 4, none⟩ (.slice (v 2).a (v 2).n (v 2).c)) s bb ⟨t.w, t.p, v, t.c⟩ ⟨d.ws, d.f, F, d.cs⟩ :=
  ⟨h.ro.free3 v F hv, h.rm.same (set3_others _ (by have := h.lo; omega)) (by simp), h.lo, h.ln⟩
end
section
variable (s : Hs) (d : Hd_) (a : Int) (w : World)
end
section
variable (s : Hs) (d : Hd_) (a : Int) (w : World)
end
end Go.Proofs.YtdmclfolooiccaaGreatDoor
end
section
namespace Go.Proofs.YtdmclfolooiccaaGreatDoor
open Go.RowKit
section
variable (s : Hs) (d : Hd_) (a : Int) (u o e : Bool) (n b m : Int) (w : World)
end
end Go.Proofs.YtdmclfolooiccaaGreatDoor
end
section
namespace Go.Proofs.YtdmclfolooiccaaGreatDoor
open Go.RowKit
set_option maxRecDepth 100000

theorem mine_next {w w' : World} {base e g n c : Nat} {xs : List Int} (h : Mine w base e g n c xs) (hb : Below w.heap.size w w') : Mine w' base e g n c xs :=
  ⟨Ls.World.ownsRow.same h.1 fun k _ hk => hb.block k hk, h.2.1, Nat.lt_of_lt_of_le h.2.2.1 hb.size, h.2.2.2⟩
section
variable (s : Hs) (d : Hd_) (a : Int) (u o e : Bool) (n b m : Int) (w : World)
end
end Go.Proofs.YtdmclfolooiccaaGreatDoor
end
section
namespace Go.Proofs.YtdmclfolooiccaaGreatDoor.Rp
open Go.Proofs.YtdmclfolooiccaaGreatDoor
open Go.RowKit
set_option maxRecDepth 100000

structure Og (w W : World) (s : Hs) (d : Hd_) (rb bs bo : Nat) (t : Hs) (D : Hd_) : Prop where
  h0 : Hp w w.heap.size s d
  bel : Below w.heap.size w W
  hb : Rm W w.heap.size s
  r : Rm W rb noHs
  o : Rm W bo t
  hp : Hp W W.heap.size t D
  o3 : Ls.Own3 W bs t.u D.F
  lo : (w.heap.size < bs ∧ w.heap.size ≤ rb ∧ rb < bs) ∧ bs ≤ bo
  ul : ∀ j, j < 3 → ∀ x, (t.u j).a = some x → ¬ x.block = bo
  aq : ∀ j, j < 3 → ∀ x, (t.u j).a = some x → (0 < t.w.n → ∀ z, t.w.a = some z → ¬ z.block = x.block) ∧ (0 < t.p.n → ∀ z, t.p.a = some z → ¬ z.block = x.block) ∧ (0 < t.c.n → ∀ z, t.c.a = some z → ¬ z.block = x.block)
  ln : t.w.n = s.w.n ∧ t.p.n = s.p.n ∧ t.c.n = s.c.n
/-- Its words are the call's own. -/
structure Om (W : World) (bs g : Nat) (t : Hs) (D : Hd_) : Prop where
  m : Mine W bs 3 g t.w.n t.w.c D.ws
  e : t.w.a = some ⟨g, 0, none⟩
  ap : (0 < t.p.n → ∀ z, t.p.a = some z → ¬ z.block = g) ∧ (∀ j, j < 3 → ∀ z, (t.u j).a = some z → ¬ z.block = g) ∧ (0 < t.c.n → ∀ z, t.c.a = some z → ¬ z.block = g)
section
variable {w W W' : World} {s t : Hs} {d D : Hd_} {rb bs bo g k : Nat}
theorem Og.next (h : Og w W s d rb bs bo t D) (hb : Below W.heap.size W W') : Og w W' s d rb bs bo t D :=
  ⟨h.h0, h.bel.trans (hb.mono h.bel.size), h.hb.next hb, h.r.next hb, h.o.next hb, h.hp.next hb, h.o3.next hb, h.lo, h.ul, h.aq, h.ln⟩
theorem Om.next (h : Om W bs g t D) (hb : Below W.heap.size W W') : Om W' bs g t D := ⟨mine_next h.m hb, h.e, h.ap⟩
theorem Og.hs (h : Og w W s d rb bs bo t D) : Hp W W.heap.size s d := h.h0.next h.bel
/-- A word is noughts. -/
theorem Og.zero (h : Og w W s d rb bs bo t D) (m : Om W bs g t D) (hn : 0 < t.w.n) (i : Nat) : Og w (W.setCell ⟨g, i, none⟩ (.int .i64 0)) s d rb bs bo t ⟨D.ws.set i 0, D.f, D.F, D.cs⟩ ∧ Om (W.setCell ⟨g, i, none⟩ (.int .i64 0)) bs g t ⟨D.ws.set i 0, D.f, D.F, D.cs⟩ := by
  have hlo := h.lo
  have hg := m.m.2.1
  have hz : W.heap.size = (W.setCell ⟨g, i, none⟩ (.int .i64 0)).heap.size := set_size.symm
  have st : Stp g g W (W.setCell ⟨g, i, none⟩ (.int .i64 0)) := Stp.set i _
  have hM := m.m.stored i 0
  have hR : Row W W.heap.size (some ⟨g, 0, none⟩) t.w.n D.ws := m.m.row
  have hbo : ¬ g = bo := fun e => h.o.sl.row hR hn _ rfl e
  have hw : Row (W.setCell ⟨g, i, none⟩ (.int .i64 0)) (W.setCell ⟨g, i, none⟩ (.int .i64 0)).heap.size t.w.a t.w.n (D.ws.set i 0) := by rw [m.e]; exact hM.row
  have ho3 : Ls.Own3 (W.setCell ⟨g, i, none⟩ (.int .i64 0)) bs t.u D.F := h.o3.same fun j x hj hx => set_others _ (m.ap.2.1 j hj x hx)
  refine ⟨⟨h.h0, h.bel.setCell (p := ⟨g, i, none⟩) (by show w.heap.size ≤ g; omega) _, h.hb.same (set_others _ (by omega)) (Nat.le_of_eq hz), h.r.same (set_others _ (by omega)) (Nat.le_of_eq hz), h.o.same (set_others _ (fun e => hbo e.symm)) (Nat.le_of_eq hz), ⟨hw, prow_stp (v := t.p) h.hp.pages (fun h0 z hz => ⟨m.ap.1 h0 z hz, m.ap.1 h0 z hz⟩) st, ho3.l3, brow_stp (v := t.c) h.hp.cards (fun h0 z hz => ⟨m.ap.2.2 h0 z hz, m.ap.2.2 h0 z hz⟩) st⟩, ho3, h.lo, h.ul, h.aq, h.ln⟩, ⟨hM, m.e, m.ap⟩⟩
theorem list_box {b : Nat} (h : Rm W b t) (hk : k < 3) : W.cell? ⟨b, 2 + k, none⟩ = some (.slice (t.u k).a (t.u k).n (t.u k).c) := by
  rcases (show k = 0 ∨ k = 1 ∨ k = 2 by omega) with rfl | rfl | rfl
  · exact h.box.box.c2
  · exact h.box.box.c3
  · exact h.box.box.c4
theorem rm_list {b : Nat} (h : Rm W b t) (hk : k < 3) (v : Ls.Sl) : Rm (W.setCell ⟨b, 2 + k, none⟩ (.slice v.a v.n v.c)) b ⟨t.w, t.p, Ls.upd t.u k v, t.c⟩ := by
  rcases (show k = 0 ∨ k = 1 ∨ k = 2 by omega) with rfl | rfl | rfl
  · exact h.set 2 v.a v.n v.c rfl rfl rfl rfl rfl rfl
  · exact h.set 3 v.a v.n v.c rfl rfl rfl rfl rfl rfl
  · exact h.set 4 v.a v.n v.c rfl rfl rfl rfl rfl rfl
/-- A list is appended to, and stored. -/
theorem Og.cat (h : Og w W s d rb bs bo t D) (hk : k < 3) {sl : Ls.Sl} {xs : List Int} {w2 : World} (hc : Ls.Catted W bs (.slice (t.u k).a (t.u k).n (t.u k).c) sl xs w2) :
    Rm w2 bo t ∧ (∀ i, i < bs → (w2.setCell ⟨bo, 2 + k, none⟩ (.slice sl.a sl.n sl.c)).heap[i]? = W.heap[i]? ∧ w2.heap[i]? = W.heap[i]?) ∧ W.heap.size ≤ w2.heap.size ∧ Og w (w2.setCell ⟨bo, 2 + k, none⟩ (.slice sl.a sl.n sl.c)) s d rb bs bo ⟨t.w, t.p, Ls.upd t.u k sl, t.c⟩ ⟨D.ws, D.f, Ls.upd D.F k xs, D.cs⟩ := by
  have hlo := h.lo
  have hob := h.o.box.box.lt
  have a3 := h.o3.appended hk sl hc.own hc.grown hc.lies
  have hsz := hc.grown.size
  have other : ∀ b, b < W.heap.size → (∀ x, (t.u k).a = some x → ¬ b = x.block) → w2.heap[b]? = W.heap[b]? := fun b hb hne => hc.grown.block b hb (by
    rw [Ls.ownBlock_slice]
    cases hx : (t.u k).a with
    | none => simp
    | some x => simpa using hne x hx)
  have hblk : ∀ x, (t.u k).a = some x → bs ≤ x.block := fun x hx => (h.o3.block k hk hx).1
  have bel2 : Below w.heap.size w w2 := h.bel.grown hc.grown h.bel.size fun j hj => by
    rw [Ls.ownBlock_slice] at hj
    cases hx : (t.u k).a with
    | none => rw [hx] at hj; cases hj
    | some x =>
      rw [hx] at hj
      simp at hj
      have := hblk x hx
      omega
  have hb2 : Rm w2 w.heap.size s := h.hb.same (other _ h.hb.box.box.lt fun x hx => by have := hblk x hx; omega) hsz
  have r2 : Rm w2 rb noHs := h.r.same (other _ h.r.box.box.lt fun x hx => by have := hblk x hx; omega) hsz
  have o2 : Rm w2 bo t := h.o.same (other _ hob fun x hx e => h.ul k hk x hx e.symm) hsz
  have rw2 : Row w2 w2.heap.size t.w.a t.w.n D.ws := (row_same h.hp.words fun hn z hz => by
    obtain ⟨b, off, e, hlt, _⟩ := h.hp.words.2 hn
    rw [hz] at e
    cases e
    exact other _ hlt fun x hx => (h.aq k hk x hx).1 hn _ hz).more hsz
  have rp2 : Cl.PRow w2 w2.heap.size t.p.a t.p.n D.f := fun hn => by
    obtain ⟨b, off, e, hlt, hcc⟩ := h.hp.pages hn
    have hb := other b hlt fun x hx => (h.aq k hk x hx).2.1 hn _ e
    exact ⟨b, off, e, Nat.lt_of_lt_of_le hlt hsz, fun i hi => ⟨(World.cell?_of_block (a := ⟨b, off + i * 2, none⟩) hb).trans (hcc i hi).1, (World.cell?_of_block (a := ⟨b, off + i * 2 + 1, none⟩) hb).trans (hcc i hi).2⟩⟩
  have rc2 : BRow w2 w2.heap.size t.c.a t.c.n D.cs := fun hn => by
    obtain ⟨b, off, e, hlt, hcc⟩ := h.hp.cards hn
    have hb := other b hlt fun x hx => (h.aq k hk x hx).2.2 hn _ e
    exact ⟨b, off, e, Nat.lt_of_lt_of_le hlt hsz, fun i hi => (World.cell?_of_block (a := ⟨b, off + i, none⟩) hb).trans (hcc i hi)⟩
  have inold : ∀ j, j < 3 → ∀ x, (Ls.upd t.u k sl j).a = some x → (∃ i, i < 3 ∧ ∃ y, (t.u i).a = some y ∧ y.block = x.block) ∨ W.heap.size ≤ x.block := fun j hj x hx => by
    by_cases e : j = k
    · subst e
      rw [Ls.upd_same] at hx
      rcases hc.lies x hx with g | g
      · rw [Ls.ownBlock_slice] at g
        cases hy : (t.u j).a with
        | none => rw [hy] at g; cases g
        | some y =>
          rw [hy] at g
          simp at g
          exact .inl ⟨j, hj, y, hy, g⟩
      · exact .inr g
    · rw [Ls.upd_other _ _ e] at hx
      exact .inl ⟨j, hj, x, hx, rfl⟩
  have ul2 : ∀ j, j < 3 → ∀ x, (Ls.upd t.u k sl j).a = some x → ¬ x.block = bo := fun j hj x hx e => by
    rcases inold j hj x hx with ⟨i, hi, y, hy, e2⟩ | g
    · exact h.ul i hi y hy (e2.trans e)
    · omega
  have aq2 : ∀ j, j < 3 → ∀ x, (Ls.upd t.u k sl j).a = some x → (0 < t.w.n → ∀ z, t.w.a = some z → ¬ z.block = x.block) ∧ (0 < t.p.n → ∀ z, t.p.a = some z → ¬ z.block = x.block) ∧ (0 < t.c.n → ∀ z, t.c.a = some z → ¬ z.block = x.block) := fun j hj x hx => by
    rcases inold j hj x hx with ⟨i, hi, y, hy, e2⟩ | g
    · rw [← e2]
      exact h.aq i hi y hy
    · refine ⟨fun hn z hz e => ?_, fun hn z hz e => ?_, fun hn z hz e => ?_⟩
      · obtain ⟨b, off, e3, hlt, _⟩ := h.hp.words.2 hn
        rw [hz] at e3
        cases e3
        simp only at e
        omega
      · obtain ⟨b, off, e3, hlt, _⟩ := h.hp.pages hn
        rw [hz] at e3
        cases e3
        simp only at e
        omega
      · obtain ⟨b, off, e3, hlt, _⟩ := h.hp.cards hn
        rw [hz] at e3
        cases e3
        simp only at e
        omega
  have hz2 : w2.heap.size = (w2.setCell ⟨bo, 2 + k, none⟩ (.slice sl.a sl.n sl.c)).heap.size := set_size.symm
  have old : ∀ i, i < bs → (w2.setCell ⟨bo, 2 + k, none⟩ (.slice sl.a sl.n sl.c)).heap[i]? = W.heap[i]? ∧ w2.heap[i]? = W.heap[i]? := fun i hi => by
    have h1 := other i (by omega) fun x hx => by have := hblk x hx; omega
    exact ⟨(set_others i (by omega)).trans h1, h1⟩
  exact ⟨o2, old, hsz, ⟨h.h0, bel2.setCell (p := ⟨bo, 2 + k, none⟩) (by show w.heap.size ≤ bo; omega) _, hb2.same (set_others _ (by omega)) (Nat.le_of_eq hz2), r2.same (set_others _ (by omega)) (Nat.le_of_eq hz2), rm_list o2 hk sl, hp_turn o2.sl (t := ⟨t.w, t.p, Ls.upd t.u k sl, t.c⟩) (d := ⟨D.ws, D.f, Ls.upd D.F k xs, D.cs⟩) ⟨rw2, rp2, a3.l3, rc2⟩ set_others hz2, a3.same fun j x hj hx => set_others _ (ul2 j hj x hx), h.lo, ul2, aq2, h.ln⟩⟩
end
end Go.Proofs.YtdmclfolooiccaaGreatDoor.Rp
end
section
namespace Go.Proofs.YtdmclfolooiccaaGreatDoor.Cl
open Go.Proofs.YtdmclfolooiccaaGreatDoor
open Go.RowKit
set_option maxRecDepth 100000

/-- Pages, in memory of their own. -/
def TNew (w : World) (n : Nat) (g : Nat → Int × Int) (e : Ending) (w' : World) : Prop :=
  ∃ b c, e = .returned (.tuple #[.slice (some ⟨b, 0, none⟩) n c, .int .i64 0]) ∧ PRow w' w'.heap.size (some ⟨b, 0, none⟩) n g ∧ w.heap.size ≤ b ∧ Below w.heap.size w w'
theorem tnew_ok {w w' : World} {err : Int} {n b c : Nat} {g f : Nat → Int × Int} {e : Ending} (he : e = .returned (.tuple #[.slice (some ⟨b, 0, none⟩) n c, .int .i64 0])) (_ : err = 0)
    (h : PMine w' w.heap.size 74 b n c f) (hg : ∀ i, i < n → g i = f i) (hb : Below w.heap.size w w') : TNew w n g e w' :=
  ⟨b, c, he, fun hn => by
    obtain ⟨b', off, e', hlt, hc⟩ := h.row hn
    exact ⟨b', off, e', hlt, fun i hi => by rw [hg i hi]; exact hc i hi⟩, h.2.1, hb⟩

set_option maxHeartbeats 1000000 in
theorem rsmall_new (B : Nat) (A : Option Addr) (n c : Nat) (f : Nat → Int × Int) (a : Nat) (cl : Int) (w : World) (hn : n ≤ 1000) (hr : PRow w B A n f) (hB : B ≤ w.heap.size) (hM : mayB f n = true) (hc : 0 ≤ cl ∧ cl ≤ 2) (ha : a < n) (hf : (f a).1 = 0) :
    Calls Tryz.prog 30 #[.slice A n c, .int .i64 (a : Int), .int .i64 cl] w (TNew w n (smallF f (a : Int) cl)) := by
  have HR := Lib.hid hr
  clear hr
  have HM := Lib.hid hM
  have hcl := (clB_iff cl).2 hc
  obtain ⟨hc0, hc2⟩ := hc
  have d0 : decide (cl < 0) = false := by simp; omega
  have d1 : decide (2 < cl) = false := by simp; omega
  have HT := Lib.hid (show smallE f n (a : Int) cl = takeE f n (a : Int) 1 from if_pos hcl)
  obtain ⟨n1, n64, -, -⟩ := (mayB_iff f n).1 hM
  obtain ⟨b, off, rfl, hbB, -⟩ := HR.out (by omega)
  have HE := Lib.hid (HT.out.trans (takeE_ok hM (by omega) (by simpa [one_free] using hf)))
  have e0 : ((f a).1 != 0) = false := by simpa using hf
  clear hM hcl hf
  go_enter Tryz.func30, Tryz.ntmps30
  go_wp2_with fail
  refine (rmay_yes B _ _ _ _ _ HM.out HR.out hB).mono ?_
  rintro e w1 ⟨rfl, hb1⟩
  have HR1 := Lib.hid (HR.out.over hb1 hB)
  obtain ⟨_, _, ea, hb', hc'⟩ := HR1.out (by omega)
  simp at ea
  obtain ⟨rfl, rfl⟩ := ea
  obtain ⟨p0, p1⟩ := hc' a ha
  have HB1 := Lib.hid hb1
  have hz1 := hb1.size
  clear hb1 hc'
  go_wp2_with (at_builtin; refine wpList_pcopied rfl _ _ rfl rfl B _ n c f rfl HR1.out ?n0 ?n1 ?_)
  case n0 => omega
  case n1 => omega
  intro g c' w2 hm hb2
  have f0 := hm.free (a * 2)
  have f1 := hm.free (a * 2 + 1)
  obtain ⟨k0, k1⟩ := hm.cells a ha
  have hg := hm.2.1
  have hgr := hm.2.2.1
  have hcc := hm.2.2.2.1
  have HM2 := Lib.hid (hm.stored a (1, cl))
  have HB2 := Lib.hid (HB1.out.trans (hb2.mono hz1))
  clear hm hb2
  go_wp2
  go_ret2
  exact tnew_ok rfl HE.out (HM2.out.lower hz1) (fun i _ => rfl) ((HB2.out.setCell (by simpa using (show w.heap.size ≤ g by omega)) _).setCell (by simpa using (show w.heap.size ≤ g by omega)) _)

set_option maxHeartbeats 1000000 in
theorem rlarge_new (B : Nat) (A : Option Addr) (n c : Nat) (f : Nat → Int × Int) (a q : Nat) (w : World) (hn : n ≤ 1000) (hr : PRow w B A n f) (hB : B ≤ w.heap.size) (hM : mayB f n = true) (hc : 1 ≤ q ∧ q ≤ 4) (ha : a + q ≤ n) (hf : freeB f a q = true) :
    Calls Tryz.prog 29 #[.slice A n c, .int .i64 (a : Int), .int .i64 (q : Int)] w (TNew w n (largeF f (a : Int) (q : Int))) := by
  have HR := Lib.hid hr
  clear hr
  have HM := Lib.hid hM
  have hcl := (runB_iff (q : Int)).2 (by omega)
  obtain ⟨hc0, hc2⟩ := hc
  have d0 : decide ((q : Int) < 1) = false := by simp; omega
  have d1 : decide (4 < (q : Int)) = false := by simp; omega
  have HT := Lib.hid (show largeE f n (a : Int) q = takeE f n (a : Int) q from if_pos hcl)
  obtain ⟨n1, n64, -, -⟩ := (mayB_iff f n).1 hM
  have d4 : decide ((n : Int) - a < q) = false := by simp; omega
  obtain ⟨b, off, rfl, hbB, -⟩ := HR.out (by omega)
  have HE := Lib.hid (HT.out.trans (takeE_ok hM (by omega) (by simpa using hf)))
  have HF := Lib.hid hf
  clear hM hcl hf
  go_enter Tryz.func29, Tryz.ntmps29
  go_wp2_with fail
  refine (rmay_yes B _ _ _ _ _ HM.out HR.out hB).mono ?_
  rintro e w1 ⟨rfl, hb1⟩
  have HR1 := Lib.hid (HR.out.over hb1 hB)
  have HB1 := Lib.hid hb1
  have hz1 := hb1.size
  clear hb1
  go_wp2_with fail
  refine (rfree_yes B _ _ _ _ _ _ _ HF.out hn ha HR1.out).mono ?_
  rintro e w2 ⟨rfl, rfl⟩
  go_wp2_with (at_builtin; refine wpList_pcopied rfl _ _ rfl rfl B _ n c f rfl HR1.out ?n0 ?n1 ?_)
  case n0 => omega
  case n1 => omega
  intro g c' w2 hm hb2
  have f0 := hm.free (a * 2)
  have f1 := hm.free (a * 2 + 1)
  obtain ⟨k0, k1⟩ := hm.cells a (by omega)
  have hg := hm.2.1
  have hgr := hm.2.2.1
  have hcc := hm.2.2.2.1
  have HM2 := Lib.hid (hm.stored a (2, q))
  have HB2 := Lib.hid ((HB1.out.trans (hb2.mono hz1)).setCell (p := ⟨g, a * 2, none⟩) (by simpa using (show w.heap.size ≤ g by omega)) (.int .i64 2) |>.setCell (p := ⟨g, a * 2 + 1, none⟩) (by simpa using (show w.heap.size ≤ g by omega)) (.int .i64 q))
  clear hm hb2
  go_wp2
  go_loopw [10] (fun i wr => ∃ k : Nat, 1 ≤ k ∧ k ≤ q ∧ i = .int .i64 k ∧ PMine wr w1.heap.size 74 g n c' (fillF (put f a (2, (q : Int))) (a + 1) (k - 1) (3, 0)) ∧ Below w.heap.size w wr) (fun i _ => q - (intOf i).toNat)
  case atStart => exact ⟨1, by omega, by omega, rfl, by rw [Nat.sub_self, fillF_zero]; exact HM2.out, HB2.out⟩
  case round =>
    obtain ⟨k, hk1, hk2, rfl, hm, hb⟩ := hrel
    have HB := Lib.hid hb
    have HK := Lib.hid hm
    by_cases hlt : k < q
    · have f0 := hm.free ((a + k) * 2)
      have f1 := hm.free ((a + k) * 2 + 1)
      have hgr := hm.2.2.1
      obtain ⟨d0', d1'⟩ := hm.cells (a + k) (by omega)
      clear hm hb
      go_wp2
      go_roundw
      case rel =>
        refine ⟨k + 1, by omega, by omega, by go_num, ?_, ?_⟩
        · have := HK.out.stored (a + k) (3, 0)
          rw [show a + k = a + 1 + (k - 1) by omega, fillF_succ, show a + 1 + (k - 1) = a + k by omega, show k - 1 + 1 = k + 1 - 1 by omega] at this
          exact this
        · exact (HB.out.setCell (by simpa using (show w.heap.size ≤ g by omega)) _).setCell (by simpa using (show w.heap.size ≤ g by omega)) _
      case measure => simp [intOf]; omega
    · obtain rfl : k = q := by omega
      clear hm hb
      go_wp2
      go_ret2
      refine tnew_ok rfl HE.out (HK.out.lower hz1) (fun i _ => ?_) HB.out
      show large f a k i = _
      unfold large fillF put
      by_cases h : i = a
      · rw [if_pos h, if_neg (by omega), if_pos h]
      · rw [if_neg h, if_neg h]
        by_cases h2 : a < i ∧ (i : Int) < a + k
        · rw [if_pos h2, if_pos (by omega)]
        · rw [if_neg h2, if_neg (by omega)]
end Go.Proofs.YtdmclfolooiccaaGreatDoor.Cl
end
