/-
  What the reference's Take has in memory, between its Owns and its end.
-/
import Derived.Test.YtdmclfolooiccaaGreatDoorHpAU
import Derived.Test.YtdmclfolooiccaaGreatDoorHpAM
import Derived.Test.YtdmclfolooiccaaGreatDoorAAlRefM
namespace Go.Proofs.YtdmclfolooiccaaGreatDoor.Rp
open Go.Proofs.YtdmclfolooiccaaGreatDoor
open Go.RowKit
set_option maxRecDepth 100000

theorem mine_same {W W' : World} {base e g n c : Nat} {xs : List Int} (h : Mine W base e g n c xs) (hs : W'.heap[g]? = W.heap[g]?) (hl : W.heap.size ≤ W'.heap.size) : Mine W' base e g n c xs :=
  ⟨Ls.World.ownsRow.same h.1 fun k hk _ => by
    rw [Ls.ownBlock_slice] at hk
    simp at hk
    rw [← hk]
    exact hs, h.2.1, Nat.lt_of_lt_of_le h.2.2.1 hl, h.2.2.2⟩
theorem slices_put3 {W : World} {b : Nat} (h : Slices W b) (v : Nat → Ls.Sl) : Slices (Ls.put3 W b v) b := ((h.set).set).set
/-- W0: ahead of the two Owns; the heap's copy in a box at bo, its words at g; the lists' copy in a box at bc. -/
structure Tz (w W0 W : World) (bo bc g : Nat) (t : Hs) (D : Hd_) (v : Nat → Ls.Sl) (G : Nat → List Int) : Prop where
  bel : Below w.heap.size w W
  big : w.heap.size ≤ W0.heap.size
  old : ∀ i, i < W0.heap.size → W.heap[i]? = W0.heap[i]?
  lo : W0.heap.size ≤ bo ∧ W0.heap.size ≤ bc ∧ ¬ bo = bc
  n0 : 0 < t.w.n
  o : Rm W bo t
  hp : Hp W W.heap.size t D
  m : Mine W W0.heap.size 3 g t.w.n t.w.c D.ws
  e : t.w.a = some ⟨g, 0, none⟩
  ap : (0 < t.p.n → ∀ z, t.p.a = some z → ¬ z.block = g) ∧ (∀ j, j < 3 → 0 < (t.u j).n → ∀ z, (t.u j).a = some z → ¬ z.block = g) ∧ (0 < t.c.n → ∀ z, t.c.a = some z → ¬ z.block = g)
  b3 : Ls.Box3 W bc v
  sl : Slices W bc
  l3 : Ls.L3 W W.heap.size v G
  lv : ∀ j, j < 3 → 0 < (v j).n → ∀ x, (v j).a = some x → ¬ x.block = g
section
variable {w W0 W W' : World} {bo bc g : Nat} {t t' : Hs} {D D' : Hd_} {v v' : Nat → Ls.Sl} {G G' : Nat → List Int}
theorem Tz.sz (h : Tz w W0 W bo bc g t D v G) : W0.heap.size ≤ W.heap.size := by have := h.lo.1; have := h.o.box.box.lt; omega
theorem Tz.next (h : Tz w W0 W bo bc g t D v G) (hb : Below W.heap.size W W') : Tz w W0 W' bo bc g t D v G := by
  have z := h.sz
  exact ⟨h.bel.trans (hb.mono h.bel.size), h.big, fun i hi => (hb.block i (by omega)).trans (h.old i hi), h.lo, h.n0, h.o.next hb, h.hp.next hb, mine_next h.m hb, h.e, h.ap, h.b3.next hb, h.sl.same (hb.block bc h.b3.lt), h.l3.next hb, h.lv⟩
theorem Tz.gne (h : Tz w W0 W bo bc g t D v G) : ¬ g = bo ∧ ¬ g = bc :=
  ⟨fun e => h.o.sl.row h.m.row h.n0 _ rfl e, fun e => h.sl.row h.m.row h.n0 _ rfl e⟩
/-- A word is stored. -/
theorem Tz.word (h : Tz w W0 W bo bc g t D v G) (i : Nat) (x : Int) : Tz w W0 (W.setCell ⟨g, i, none⟩ (.int .i64 x)) bo bc g t ⟨D.ws.set i x, D.f, D.F, D.cs⟩ v G := by
  have hg := h.m.2.1
  have hbig := h.big
  obtain ⟨n1, n2⟩ := h.gne
  have hz : W.heap.size = (W.setCell ⟨g, i, none⟩ (.int .i64 x)).heap.size := set_size.symm
  have st : Stp g g W (W.setCell ⟨g, i, none⟩ (.int .i64 x)) := Stp.set i _
  have hM := h.m.stored i x
  have hw : Row (W.setCell ⟨g, i, none⟩ (.int .i64 x)) (W.setCell ⟨g, i, none⟩ (.int .i64 x)).heap.size t.w.a t.w.n (D.ws.set i x) := by rw [h.e]; exact hM.row
  have rowS : ∀ {s : Ls.Sl} {xs : List Int}, (0 < s.n → ∀ z, s.a = some z → ¬ z.block = g) → Row W W.heap.size s.a s.n xs → Row (W.setCell ⟨g, i, none⟩ (.int .i64 x)) (W.setCell ⟨g, i, none⟩ (.int .i64 x)).heap.size s.a s.n xs := fun ho hr => row_stp hr (fun h0 z hz => ⟨ho h0 z hz, ho h0 z hz⟩) st
  exact ⟨h.bel.setCell (p := ⟨g, i, none⟩) (by show w.heap.size ≤ g; omega) _, h.big, fun k hk => (set_others k (by omega)).trans (h.old k hk), h.lo, h.n0, h.o.same (set_others _ (fun e => n1 e.symm)) (Nat.le_of_eq hz),
    ⟨hw, prow_stp (v := t.p) h.hp.pages (fun h0 z hz => ⟨h.ap.1 h0 z hz, h.ap.1 h0 z hz⟩) st, fun j hj => ⟨rowS (h.ap.2.1 j hj) (h.hp.free j hj).1, (h.hp.free j hj).2⟩, brow_stp (v := t.c) h.hp.cards (fun h0 z hz => ⟨h.ap.2.2 h0 z hz, h.ap.2.2 h0 z hz⟩) st⟩,
    hM, h.e, h.ap, h.b3.same (set_others _ (fun e => n2 e.symm)) (Nat.le_of_eq hz), h.sl.same (set_others _ (fun e => n2 e.symm)), fun j hj => ⟨rowS (h.lv j hj) (h.l3 j hj).1, (h.l3 j hj).2⟩, h.lv⟩
/-- The heap's box is turned. -/
theorem Tz.heap (h : Tz w W0 W bo bc g t D v G) (hs : ∀ i, ¬ i = bo → W'.heap[i]? = W.heap[i]?) (hz : W.heap.size = W'.heap.size) (hc : Below w.heap.size w W') (o' : Rm W' bo t') (hp' : Hp W W.heap.size t' D') (ew : t'.w = t.w) (ed : D'.ws = D.ws)
    (ap' : (0 < t'.p.n → ∀ z, t'.p.a = some z → ¬ z.block = g) ∧ (∀ j, j < 3 → 0 < (t'.u j).n → ∀ z, (t'.u j).a = some z → ¬ z.block = g) ∧ (0 < t'.c.n → ∀ z, t'.c.a = some z → ¬ z.block = g)) : Tz w W0 W' bo bc g t' D' v G := by
  have hlo := h.lo
  have n1 := h.gne.1
  refine ⟨hc, h.big, fun i hi => (hs i (by omega)).trans (h.old i hi), h.lo, by rw [ew]; exact h.n0, o', hp_turn h.o.sl hp' hs hz, ?_, by rw [ew]; exact h.e, ap', h.b3.same (hs _ (fun e => hlo.2.2 e.symm)) (Nat.le_of_eq hz), h.sl.same (hs _ (fun e => hlo.2.2 e.symm)), l3_turn h.o.sl h.l3 hs hz, h.lv⟩
  rw [ew, ed]
  exact mine_same h.m (hs g n1) (Nat.le_of_eq hz)
/-- The lists' box is turned. -/
theorem Tz.lists (h : Tz w W0 W bo bc g t D v G) (v' : Nat → Ls.Sl) (l3' : Ls.L3 W W.heap.size v' G') (lv' : ∀ j, j < 3 → 0 < (v' j).n → ∀ x, (v' j).a = some x → ¬ x.block = g) : Tz w W0 (Ls.put3 W bc v') bo bc g t D v' G' := by
  have hlo := h.lo
  have hbig := h.big
  have n2 := h.gne.2
  have hs : ∀ i, ¬ i = bc → (Ls.put3 W bc v').heap[i]? = W.heap[i]? := fun i hi => Ls.put3_other W v' hi
  have hz : W.heap.size = (Ls.put3 W bc v').heap.size := (Ls.put3_size W _ v').symm
  exact ⟨Ls.below_put3 h.bel (by omega) v', h.big, fun i hi => (hs i (by omega)).trans (h.old i hi), h.lo, h.n0, h.o.same (hs _ hlo.2.2) (Nat.le_of_eq hz), hp_turn h.sl h.hp hs hz, mine_same h.m (hs g n2) (Nat.le_of_eq hz), h.e, h.ap, h.b3.put v', slices_put3 h.sl v', l3_turn h.sl l3' hs hz, lv'⟩
/-- Other pages, in new memory. -/
theorem Tz.pages (h : Tz w W0 W bo bc g t D v G) {b n c : Nat} {f : Nat → Int × Int} (hr : Cl.PRow W W.heap.size (some ⟨b, 0, none⟩) n f) (hb : ¬ b = g) :
    Tz w W0 (W.setCell ⟨bo, 1, none⟩ (.slice (some ⟨b, 0, none⟩) n c)) bo bc g ⟨t.w, ⟨some ⟨b, 0, none⟩, n, c⟩, t.u, t.c⟩ ⟨D.ws, f, D.F, D.cs⟩ v G := by
  have hlo := h.lo
  have hbig := h.big
  exact h.heap set_others set_size.symm (h.bel.setCell (p := ⟨bo, 1, none⟩) (by show w.heap.size ≤ bo; omega) _) (h.o.set 1 _ _ _ rfl rfl rfl rfl rfl rfl) ⟨h.hp.words, hr, h.hp.free, h.hp.cards⟩ rfl rfl ⟨fun _ z hz => by cases hz; exact hb, h.ap.2⟩
/-- Both lists are other lists. -/
theorem Tz.moved (h : Tz w W0 W bo bc g t D v G) {u : Nat → Ls.Sl} {F : Nat → List Int} (l3 : Ls.L3 W W.heap.size u F) (l3' : Ls.L3 W W.heap.size v' G') (lu : ∀ j, j < 3 → 0 < (u j).n → ∀ x, (u j).a = some x → ¬ x.block = g) (lv' : ∀ j, j < 3 → 0 < (v' j).n → ∀ x, (v' j).a = some x → ¬ x.block = g) :
    Tz w W0 (((W.setCell ⟨bo, 2, none⟩ (.slice (u 0).a (u 0).n (u 0).c)).setCell ⟨bo, 3, none⟩ (.slice (u 1).a (u 1).n (u 1).c)).setCell ⟨bo, 4, none⟩ (.slice (u 2).a (u 2).n (u 2).c)) bo bc g ⟨t.w, t.p, u, t.c⟩ ⟨D.ws, D.f, F, D.cs⟩ v G ∧
    Tz w W0 (Ls.put3 (((W.setCell ⟨bo, 2, none⟩ (.slice (u 0).a (u 0).n (u 0).c)).setCell ⟨bo, 3, none⟩ (.slice (u 1).a (u 1).n (u 1).c)).setCell ⟨bo, 4, none⟩ (.slice (u 2).a (u 2).n (u 2).c)) bc v') bo bc g ⟨t.w, t.p, u, t.c⟩ ⟨D.ws, D.f, F, D.cs⟩ v' G' := by
  have hlo := h.lo
  have hbig := h.big
  have hz : W.heap.size = (((W.setCell ⟨bo, 2, none⟩ (.slice (u 0).a (u 0).n (u 0).c)).setCell ⟨bo, 3, none⟩ (.slice (u 1).a (u 1).n (u 1).c)).setCell ⟨bo, 4, none⟩ (.slice (u 2).a (u 2).n (u 2).c)).heap.size := by simp [World.setCell]
  have h1 := h.heap set3_others hz (((h.bel.setCell (p := ⟨bo, 2, none⟩) (by show w.heap.size ≤ bo; omega) _).setCell (p := ⟨bo, 3, none⟩) (by show w.heap.size ≤ bo; omega) _).setCell (p := ⟨bo, 4, none⟩) (by show w.heap.size ≤ bo; omega) _) (h.o.free3 u) (D' := ⟨D.ws, D.f, F, D.cs⟩) ⟨h.hp.words, h.hp.pages, l3, h.hp.cards⟩ rfl rfl ⟨h.ap.1, lu, h.ap.2.2⟩
  exact ⟨h1, h1.lists v' (l3_turn h.o.sl l3' set3_others hz) lv'⟩
end
/-- The heap's lists are the walk's own, too. -/
structure Tw (w W0 W : World) (bo bc g : Nat) (t : Hs) (D : Hd_) (v : Nat → Ls.Sl) (G : Nat → List Int) : Prop where
  z : Tz w W0 W bo bc g t D v G
  o3 : Ls.Own3 W W0.heap.size t.u D.F
  au : ∀ j, j < 3 → ∀ x, (t.u j).a = some x → ¬ x.block = g ∧ ¬ x.block = bo ∧ ¬ x.block = bc ∧ (0 < t.p.n → ∀ z, t.p.a = some z → ¬ z.block = x.block) ∧ (0 < t.c.n → ∀ z, t.c.a = some z → ¬ z.block = x.block) ∧ ∀ i, i < 3 → 0 < (v i).n → ∀ y, (v i).a = some y → ¬ y.block = x.block
section
variable {w W0 W W' : World} {bo bc g k : Nat} {t t' : Hs} {D D' : Hd_} {v v' : Nat → Ls.Sl} {G G' : Nat → List Int}
theorem Tw.next (h : Tw w W0 W bo bc g t D v G) (hb : Below W.heap.size W W') : Tw w W0 W' bo bc g t D v G := ⟨h.z.next hb, h.o3.next hb, h.au⟩
theorem Tw.word (h : Tw w W0 W bo bc g t D v G) (i : Nat) (x : Int) : Tw w W0 (W.setCell ⟨g, i, none⟩ (.int .i64 x)) bo bc g t ⟨D.ws.set i x, D.f, D.F, D.cs⟩ v G :=
  ⟨h.z.word i x, h.o3.same fun j y hj hy => set_others _ (h.au j hj y hy).1, h.au⟩
theorem Tw.pages (h : Tw w W0 W bo bc g t D v G) {W1 : World} (hb : Below W.heap.size W W1) {b n c : Nat} {f : Nat → Int × Int} (hr : Cl.PRow W1 W1.heap.size (some ⟨b, 0, none⟩) n f) (hl : W.heap.size ≤ b) :
    Tw w W0 (W1.setCell ⟨bo, 1, none⟩ (.slice (some ⟨b, 0, none⟩) n c)) bo bc g ⟨t.w, ⟨some ⟨b, 0, none⟩, n, c⟩, t.u, t.c⟩ ⟨D.ws, f, D.F, D.cs⟩ v G := by
  have h1 := h.next hb
  have hg := h.z.m.2.2.1
  refine ⟨h1.z.pages hr (by omega), h1.o3.same fun j y hj hy => set_others _ (h1.au j hj y hy).2.1, fun j hj x hx => ?_⟩
  obtain ⟨a1, a2, a3, -, a5, a6⟩ := h1.au j hj x hx
  have hx2 := (h.o3.block j hj hx).2
  exact ⟨a1, a2, a3, fun _ z hz => by cases hz; show ¬ b = x.block; omega, a5, a6⟩
/-- A list is appended to, and stored. -/
theorem Tw.cat (h : Tw w W0 W bo bc g t D v G) (hk : k < 3) {sl : Ls.Sl} {xs : List Int} {w2 : World} (hc : Ls.Catted W W0.heap.size (.slice (t.u k).a (t.u k).n (t.u k).c) sl xs w2) :
    Rm w2 bo t ∧ W.heap.size ≤ w2.heap.size ∧ Tw w W0 (w2.setCell ⟨bo, 2 + k, none⟩ (.slice sl.a sl.n sl.c)) bo bc g ⟨t.w, t.p, Ls.upd t.u k sl, t.c⟩ ⟨D.ws, D.f, Ls.upd D.F k xs, D.cs⟩ v G := by
  have hlo := h.z.lo
  have hbig := h.z.big
  have hob := h.z.o.box.box.lt
  have a3 := h.o3.appended hk sl hc.own hc.grown hc.lies
  have hsz := hc.grown.size
  obtain ⟨gn1, gn2⟩ := h.z.gne
  have other : ∀ b, b < W.heap.size → (∀ x, (t.u k).a = some x → ¬ b = x.block) → w2.heap[b]? = W.heap[b]? := fun b hb hne => hc.grown.block b hb (by
    rw [Ls.ownBlock_slice]
    cases hx : (t.u k).a with
    | none => simp
    | some x => simpa using hne x hx)
  have hblk : ∀ x, (t.u k).a = some x → W0.heap.size ≤ x.block := fun x hx => (h.o3.block k hk hx).1
  have bel2 : Below w.heap.size w w2 := h.z.bel.grown hc.grown h.z.bel.size fun j hj => by
    rw [Ls.ownBlock_slice] at hj
    cases hx : (t.u k).a with
    | none => rw [hx] at hj; cases hj
    | some x =>
      rw [hx] at hj
      simp at hj
      have := hblk x hx
      omega
  have o2 : Rm w2 bo t := h.z.o.same (other _ hob fun x hx e => (h.au k hk x hx).2.1 e.symm) hsz
  have c2 : Ls.Box3 w2 bc v := h.z.b3.same (other _ h.z.b3.lt fun x hx e => (h.au k hk x hx).2.2.1 e.symm) hsz
  have s2 : Slices w2 bc := h.z.sl.same (other _ h.z.b3.lt fun x hx e => (h.au k hk x hx).2.2.1 e.symm)
  have m2 : Mine w2 W0.heap.size 3 g t.w.n t.w.c D.ws := mine_same h.z.m (other _ h.z.m.2.2.1 fun x hx e => (h.au k hk x hx).1 e.symm) hsz
  have rw2 : Row w2 w2.heap.size t.w.a t.w.n D.ws := by rw [h.z.e]; exact m2.row
  have rp2 : Cl.PRow w2 w2.heap.size t.p.a t.p.n D.f := fun hn => by
    obtain ⟨b, off, e, hlt, hcc⟩ := h.z.hp.pages hn
    have hb := other b hlt fun x hx => (h.au k hk x hx).2.2.2.1 hn _ e
    exact ⟨b, off, e, Nat.lt_of_lt_of_le hlt hsz, fun i hi => ⟨(World.cell?_of_block (a := ⟨b, off + i * 2, none⟩) hb).trans (hcc i hi).1, (World.cell?_of_block (a := ⟨b, off + i * 2 + 1, none⟩) hb).trans (hcc i hi).2⟩⟩
  have rc2 : BRow w2 w2.heap.size t.c.a t.c.n D.cs := fun hn => by
    obtain ⟨b, off, e, hlt, hcc⟩ := h.z.hp.cards hn
    have hb := other b hlt fun x hx => (h.au k hk x hx).2.2.2.2.1 hn _ e
    exact ⟨b, off, e, Nat.lt_of_lt_of_le hlt hsz, fun i hi => (World.cell?_of_block (a := ⟨b, off + i, none⟩) hb).trans (hcc i hi)⟩
  have l2 : Ls.L3 w2 w2.heap.size v G := fun j hj => ⟨(row_same (h.z.l3 j hj).1 fun hn z hz => by
    obtain ⟨b, off, e, hlt, _⟩ := (h.z.l3 j hj).1.2 hn
    rw [hz] at e
    cases e
    exact other _ hlt fun x hx => (h.au k hk x hx).2.2.2.2.2 j hj hn _ hz).more hsz, (h.z.l3 j hj).2⟩
  have inold : ∀ j, j < 3 → ∀ x, (Ls.upd t.u k sl j).a = some x → (∃ i, i < 3 ∧ ∃ y, (t.u i).a = some y ∧ y.block = x.block) ∨ W.heap.size ≤ x.block := fun j hj x hx => by
    by_cases e : j = k
    · subst e
      rw [Ls.upd_same] at hx
      rcases hc.lies x hx with g | g
      · rw [Ls.ownBlock_slice] at g
        cases hy : (t.u j).a with
        | none => rw [hy] at g; cases g
        | some y =>
          rw [hy] at g
          simp at g
          exact .inl ⟨j, hj, y, hy, g⟩
      · exact .inr g
    · rw [Ls.upd_other _ _ e] at hx
      exact .inl ⟨j, hj, x, hx, rfl⟩
  have au2 : ∀ j, j < 3 → ∀ x, (Ls.upd t.u k sl j).a = some x → ¬ x.block = g ∧ ¬ x.block = bo ∧ ¬ x.block = bc ∧ (0 < t.p.n → ∀ z, t.p.a = some z → ¬ z.block = x.block) ∧ (0 < t.c.n → ∀ z, t.c.a = some z → ¬ z.block = x.block) ∧ ∀ i, i < 3 → 0 < (v i).n → ∀ y, (v i).a = some y → ¬ y.block = x.block := fun j hj x hx => by
    rcases inold j hj x hx with ⟨i, hi, y, hy, e2⟩ | hx2
    · rw [← e2]
      exact h.au i hi y hy
    · have k1 := h.z.m.2.2.1
      have k2 := h.z.b3.lt
      refine ⟨by omega, by omega, by omega, fun hn z hz e => ?_, fun hn z hz e => ?_, fun i hi hn y hy e => ?_⟩
      · obtain ⟨b, off, e3, hlt, _⟩ := h.z.hp.pages hn
        rw [hz] at e3
        cases e3
        simp only at e
        omega
      · obtain ⟨b, off, e3, hlt, _⟩ := h.z.hp.cards hn
        rw [hz] at e3
        cases e3
        simp only at e
        omega
      · obtain ⟨b, off, e3, hlt, _⟩ := (h.z.l3 i hi).1.2 hn
        rw [hy] at e3
        cases e3
        simp only at e
        omega
  have hz2 : w2.heap.size = (w2.setCell ⟨bo, 2 + k, none⟩ (.slice sl.a sl.n sl.c)).heap.size := set_size.symm
  have so : ∀ i, ¬ i = bo → (w2.setCell ⟨bo, 2 + k, none⟩ (.slice sl.a sl.n sl.c)).heap[i]? = w2.heap[i]? := set_others
  have o3' : Ls.Own3 (w2.setCell ⟨bo, 2 + k, none⟩ (.slice sl.a sl.n sl.c)) W0.heap.size (Ls.upd t.u k sl) (Ls.upd D.F k xs) := a3.same fun j x hj hx => set_others _ (au2 j hj x hx).2.1
  have s0 := h.z.sz
  refine ⟨o2, hsz, ⟨⟨bel2.setCell (p := ⟨bo, 2 + k, none⟩) (by show w.heap.size ≤ bo; omega) _, h.z.big, fun i hi => (so i (by omega)).trans ((other i (by omega) fun x hx => by have := hblk x hx; omega).trans (h.z.old i hi)), h.z.lo, h.z.n0, rm_list o2 hk sl,
    hp_turn o2.sl (t := ⟨t.w, t.p, Ls.upd t.u k sl, t.c⟩) (d := ⟨D.ws, D.f, Ls.upd D.F k xs, D.cs⟩) ⟨rw2, rp2, a3.l3, rc2⟩ so hz2, mine_same m2 (so g gn1) (Nat.le_of_eq hz2), h.z.e, ⟨h.z.ap.1, fun j hj _ x hx => (au2 j hj x hx).1, h.z.ap.2.2⟩, c2.same (so _ (fun e => hlo.2.2 e.symm)) (Nat.le_of_eq hz2), s2.same (so _ (fun e => hlo.2.2 e.symm)), l3_turn o2.sl l2 so hz2, h.z.lv⟩, o3', au2⟩⟩
end
end Go.Proofs.YtdmclfolooiccaaGreatDoor.Rp
