/-
  Merged texts: HpEvery, HpNewP, PgFind, PgRefFind, PgFill, HpClone.
-/
import Derived.Test.YtdmclfolooiccaaGreatDoorHpAI
import Derived.StillTailTactics
import Derived.Test.YtdmclfolooiccaaGreatDoorHpAE
import Derived.Deep.LoopGhost
import Derived.Lib.SliceRun
section
namespace Go.Proofs.YtdmclfolooiccaaGreatDoor
open Go.RowKit
set_option maxRecDepth 100000
attribute [local go_sem] Oper.semAt_some

/-- The first word of the cell at a; the page that it begins on. -/
def wd (d : Hd_) (a : Int) : Int := d.ws.getD (a - 16).toNat 0
def pgAt (d : Hd_) (a : Int) : Int × Int := d.f (a / 16 - 1).toNat
/-- What is handed to the function: where the cell begins, its page, its head. -/
def cellV (a x : Int) (p : Int × Int) : Value := .agg #[.int .i64 a, .int .i64 p.1, .int .i64 p.2, .bool (decide (x % 2 = 1)), .bool (decide (x / 2 % 2 = 1)), .bool (decide (x / 4 % 2 = 1)), .int .i64 (nOf x), .int .i64 (x / 1024 % 4194304), .int .i64 (x / 4294967296)]
theorem HBox.same {W W' : World} {b : Nat} {s : Hs} (h : HBox W b s) (hs : W'.heap[b]? = W.heap[b]?) (hl : W.heap.size ≤ W'.heap.size) : HBox W' b s :=
  ⟨(World.cell?_of_block (a := ⟨b, 0, none⟩) hs).trans h.c0, (World.cell?_of_block (a := ⟨b, 1, none⟩) hs).trans h.c1, (World.cell?_of_block (a := ⟨b, 2, none⟩) hs).trans h.c2, (World.cell?_of_block (a := ⟨b, 3, none⟩) hs).trans h.c3, (World.cell?_of_block (a := ⟨b, 4, none⟩) hs).trans h.c4, (World.cell?_of_block (a := ⟨b, 5, none⟩) hs).trans h.c5, Nat.lt_of_lt_of_le h.lt hl⟩
theorem row_same {w w' : World} {B n : Nat} {a : Option Addr} {xs : List Int} (h : Row w B a n xs) (hs : 0 < n → ∀ x, a = some x → w'.heap[x.block]? = w.heap[x.block]?) : Row w' B a n xs :=
  ⟨h.1, fun hn => by
    obtain ⟨b, off, e, hlt, hc⟩ := h.2 hn
    exact ⟨b, off, e, hlt, fun i hi => (World.cell?_of_block (a := ⟨b, off + i, none⟩) (show w'.heap[b]? = w.heap[b]? from hs hn _ e)).trans (hc i hi)⟩⟩

/-- What the walk of every holds between the cells: its own blocks are M's. -/
structure Ev (w : World) (n₀ : Nat) (M₀ : Nat → Prop) (s : Hs) (la : Option Addr) (n : Nat) (xs : List Int) (M : Nat → Prop) (W : World) : Prop where
  box : HBox W w.heap.size s
  bel : Cl.Kept n₀ M₀ w W
  sup : ∀ k, M₀ k → M k
  row : Row W W.heap.size la n xs
  mb : M w.heap.size
  ml : 0 < n → ∀ x, la = some x → M x.block
  fit : ∀ k, M k → k < W.heap.size
theorem Ev.kept {w : World} {n₀ : Nat} {M₀ : Nat → Prop} {s : Hs} {la : Option Addr} {n : Nat} {xs : List Int} {M : Nat → Prop} {W W' : World} (h : Ev w n₀ M₀ s la n xs M W) (hk : Cl.Kept n₀ M W W') : Ev w n₀ M₀ s la n xs M W' :=
  ⟨h.box.same (hk.2 _ h.mb h.box.lt) hk.1.size, h.bel.trans (hk.less h.sup), h.sup, (row_same h.row fun h0 x hx => hk.2 _ (h.ml h0 x hx) (h.fit _ (h.ml h0 x hx))).more hk.1.size, h.mb, h.ml, fun k hM => Nat.lt_of_lt_of_le (h.fit k hM) hk.1.size⟩
/-- .. with M's blocks and those that the walk has laid since. -/
def more (M : Nat → Prop) (lo hi : Nat) : Nat → Prop := fun k => M k ∨ (lo ≤ k ∧ k < hi)
theorem Ev.next {w : World} {n₀ : Nat} {M₀ : Nat → Prop} {s : Hs} {la : Option Addr} {n : Nat} {xs : List Int} {M : Nat → Prop} {W W' : World} (h : Ev w n₀ M₀ s la n xs M W) (h0 : n₀ ≤ w.heap.size) (hb : Below W.heap.size W W') : Ev w n₀ M₀ s la n xs (more M W.heap.size W'.heap.size) W' := by
  have hs := h.bel.1.size
  have h1 := h.kept (W' := W') ⟨hb.mono (by omega), fun k _ hk => hb.block k hk⟩
  exact ⟨h1.box, h1.bel, fun k hk => .inl (h1.sup k hk), h1.row, .inl h1.mb, fun hl x hx => .inl (h1.ml hl x hx), fun k hk => hk.elim (h1.fit k) (·.2)⟩
theorem bides_more {n₀ : Nat} {J : (Nat → Prop) → List Int → World → Prop} (hJ : Cl.Bides n₀ J) {M : Nat → Prop} {pre : List Int} {W W' : World} (h : J M pre W) (hb : Below W.heap.size W W') (hn : n₀ ≤ W.heap.size) : J (more M W.heap.size W'.heap.size) pre W' :=
  hJ.more h hb hn (fun _ hk => hk)

def Asked (n₀ : Nat) (M₀ : Nat → Prop) (w : World) (J : (Nat → Prop) → List Int → World → Prop) (xs : List Int) (R : Bool) (e : Ending) (w' : World) : Prop :=
  e = .returned (.bool R) ∧ Cl.Kept n₀ M₀ w w' ∧ (R = true → ∃ M, J M xs w')
/-- Of a cell: is its first word a head's, and does what is asked hold of it? -/
def holdsAt (d : Hd_) (p : Int → Bool) (a : Int) : Bool := Hd.isWord (wd d a) && p a
def Asks (gf : Nat) (lb : Array Value) (n₀ : Nat) (d : Hd_) (p : Int → Bool) (xs : List Int) (J : (Nat → Prop) → List Int → World → Prop) : Prop :=
  ∀ M pre a W, pre ++ [a] <+: xs → Hd.isWord (wd d a) = true → J M pre W → Cl.Sz W → (∀ k, M k → k < W.heap.size) →
    Calls Tryz.prog gf (#[cellV a (wd d a) (pgAt d a)] ++ lb) W fun e W' => e = .returned (.bool (p a)) ∧ Cl.Kept n₀ M W W' ∧ (p a = true → J M (pre ++ [a]) W')
theorem all_snoc {xs : List Int} {q : Nat} {g : Int → Bool} (hq : q < xs.length) (hg : g (xs.getD q 0) = false) : xs.all g = false := by
  cases e : xs.all g
  · rfl
  · have := List.all_eq_true.1 e _ (getD_mem hq)
    rw [hg] at this
    cases this
theorem all_every {xs : List Int} {g : Int → Bool} (h : ∀ j, j < xs.length → g (xs.getD j 0) = true) : xs.all g = true := List.all_eq_true.2 fun x hx => by
  obtain ⟨q, hq, rfl⟩ := List.getElem_of_mem hx
  have := h q hq
  rwa [show xs.getD q 0 = xs[q] by simp [List.getD, hq]] at this
theorem prefix_next {xs : List Int} {q : Nat} (hq : q < xs.length) : xs.take q ++ [xs.getD q 0] = xs.take (q + 1) := by
  rw [List.take_succ_eq_append_getElem hq]
  simp [List.getD, hq]

section
variable (s : Hs) (d : Hd_) (w : World) (n₀ : Nat) (M₀ : Nat → Prop) (gf : Nat) (lb : Array Value) (p : Int → Bool) (J : (Nat → Prop) → List Int → World → Prop)
set_option maxHeartbeats 2000000 in
theorem every_core (xs : List Int) (R : Bool) (hxe : Cl.allS d.f s.p.n = xs) (hR : R = xs.all (holdsAt d p)) (hp : Hp w n₀ s d) (h0 : n₀ ≤ w.heap.size) (hn0 : 0 < n₀) (hz : Cl.Sz w) (hf : firstB s d = true) (eg : ∀ args w, (callFunc gf args).run Tryz.prog w = .ok (.enter gf args) w) (hJ : Cl.Bides n₀ J) (j0 : J M₀ [] w) (hm0 : ∀ k, M₀ k → k < w.heap.size)
    (hask : Asks gf lb n₀ d p xs J) :
    Calls Tryz.prog 41 #[(.agg #[.slice s.w.a s.w.n s.w.c, .slice s.p.a s.p.n s.p.c, .slice (s.u 0).a (s.u 0).n (s.u 0).c, .slice (s.u 1).a (s.u 1).n (s.u 1).c, .slice (s.u 2).a (s.u 2).n (s.u 2).c, .slice s.c.a s.c.n s.c.c]), .func (.func gf) #[] lb] w (Asked n₀ M₀ w J xs R) := by
  have hall := Cl.all_new n₀ s.p.a s.p.n s.p.c d.f
  have hxs : (Cl.allS d.f s.p.n).length ≤ 100000 := by
    have := Cl.allS_short d.f s.p.n (Cl.allS d.f s.p.n).length
    rw [List.take_length] at this
    omega
  have hin := fun a (h : a ∈ Cl.allS d.f s.p.n) => allS_in h
  rw [hxe] at hall hxs hin
  have HIN := Lib.hid hin
  have HALL := Lib.hid hall
  have HR := Lib.hid hR
  clear hall hin hR hxe
  have hf' := hf
  unfold firstB at hf'
  simp only [Bool.and_eq_true, decide_eq_true_eq] at hf'
  obtain ⟨hwm, hpm, hw, -⟩ := hf'
  have hpn : s.p.n ≤ 64 := ((Cl.mayB_iff _ _).1 hpm).2.1
  have hpn0 : 0 < s.p.n := by have := ((Cl.mayB_iff _ _).1 hpm).1; omega
  obtain ⟨bp, op, ep, hbp, -⟩ := hp.pages hpn0
  rcases s with ⟨sw, ⟨ap, np, cp⟩, su, sc⟩
  obtain rfl : ap = some ⟨bp, op, none⟩ := ep
  dsimp only at hwm hw hpn hpn0 HIN HALL ⊢
  have HP := Lib.hid hp
  have HZ := Lib.hid hz
  have HW := Lib.hid hw
  have HWM := Lib.hid hwm
  have HJ := Lib.hid hJ
  have HJ0 := Lib.hid j0
  have HK := Lib.hid hask
  have HM0 := Lib.hid hm0
  clear hp hz hw hf hJ j0 hask hpm hwm hm0
  go_enter Tryz.func41, Tryz.ntmps41
  go_wp2_with fail
  have b0 := (Below.refl w.heap.size w).alloc (Nat.le_refl _) (.cells #[.slice sw.a sw.n sw.c, .slice (some ⟨bp, op, none⟩) np cp, .slice (su 0).a (su 0).n (su 0).c, .slice (su 1).a (su 1).n (su 1).c, .slice (su 2).a (su 2).n (su 2).c, .slice sc.a sc.n sc.c] 28)

  refine (HALL.out _ (by omega) (HZ.out.alloc _) (HP.out.pages.below (b0.mono h0)) (by simp; omega)).mono ?_
  rintro r w2 hl
  obtain ⟨la, lc, rfl, hrow, _, _, hb2, hlies⟩ := hl
  have hbw := b0.trans (hb2.mono (by simp))
  have E2 : Hid (Ev w n₀ M₀ ⟨sw, ⟨some ⟨bp, op, none⟩, np, cp⟩, su, sc⟩ la xs.length xs (more M₀ w.heap.size w2.heap.size) w2) := Lib.hid
    ⟨(HBox.new w ⟨sw, ⟨some ⟨bp, op, none⟩, np, cp⟩, su, sc⟩ 28).next hb2, ⟨hbw.mono h0, fun k _ hk => hbw.block k hk⟩, fun k hk => .inl hk, hrow, .inr ⟨Nat.le_refl _, by have := hb2.size; simp at this; omega⟩, fun hl0 x hx => .inr ⟨by have := hlies x hx; simp at this; omega, by
      obtain ⟨b, off, e, hlt, _⟩ := hrow.2 hl0
      rw [hx] at e
      cases e
      exact hlt⟩, fun k hk => hk.elim (fun hf => Nat.lt_of_lt_of_le (HM0.out k hf) hbw.size) (·.2)⟩
  have J2 := Lib.hid (bides_more HJ.out HJ0.out hbw h0)
  obtain ⟨n, hn⟩ : ∃ n, xs.length = n := ⟨_, rfl⟩
  have HN := Lib.hid hn
  rw [hn] at E2 hxs ⊢
  clear hrow hb2 hlies hbw b0 hn
  go_wp2
  go_loopw [17] (fun i wr => ∃ q : Nat, q ≤ n ∧ i = .int .i64 q ∧ Hid (∀ j, j < q → holdsAt d p (xs.getD j 0) = true) ∧ Hid (∃ M, Ev w n₀ M₀ ⟨sw, ⟨some ⟨bp, op, none⟩, np, cp⟩, su, sc⟩ la n xs M wr ∧ J M (xs.take q) wr)) (fun i _ => n - (intOf i).toNat)
  case atStart => exact ⟨0, Nat.zero_le _, rfl, Lib.hid (fun j h => absurd h (by omega)), Lib.hid ⟨_, E2.out, J2.out⟩⟩
  case round =>
    obtain ⟨q, hq, rfl, HG, HM⟩ := hrel
    by_cases hlt : q < n
    · obtain ⟨M, hE, hj⟩ := HM.out
      have hsz := hE.bel.1.size
      obtain ⟨b, off, rfl, hbl, hcell⟩ := hE.row.2 (by omega)
      have hq1 := hcell q hlt
      obtain ⟨y, hy⟩ : ∃ y, y = xs.getD q 0 := ⟨_, rfl⟩
      rw [← hy] at hq1
      have hmem : y ∈ xs := by
        have : xs[q]? = some y := by rw [hy]; simp [List.getD, List.getElem?_eq_getElem (show q < xs.length by have := HN.out; omega)]
        exact List.mem_of_getElem? this
      have hyin := HIN.out y hmem
      obtain ⟨x, hx⟩ : ∃ x, x = wd d y := ⟨_, rfl⟩
      obtain ⟨pg, hpg⟩ : ∃ pg, pg = pgAt d y := ⟨_, rfl⟩
      obtain ⟨k, hk⟩ : ∃ k : Nat, (y - 16) / 16 = k := ⟨((y - 16) / 16).toNat, by omega⟩
      have hkp : k < np := by have := HW.out; omega
      have HPAGE := Lib.hid (fun (W : World) => by
        have := Ar.page_ok sw.a sw.n sw.c y W HWM.out hyin.1 (by have := HW.out; omega)
        rw [hk] at this
        exact this)
      have HGET := Lib.hid (fun (W : World) (hW : Row W n₀ sw.a sw.n d.ws) => by
        have := Ar.get_ok n₀ sw.a sw.n sw.c d.ws y W HWM.out hyin.1 (by have := HW.out; omega) hW
        rw [show d.ws.getD (y - 16).toNat 0 = x from hx.symm] at this
        exact this)
      have hws := Lib.hid ((HP.out.below hE.bel.1).words)
      have hps := Lib.hid ((HP.out.below hE.bel.1).pages)
      have HX := Lib.hid hx
      have HPG := Lib.hid hpg
      have HY := Lib.hid hy
      have HKK := Lib.hid hk
      have HE := Lib.hid hE
      have HJJ := Lib.hid hj
      have i0 : (0 : Int) ≤ q := by omega
      have i1 : (q : Int) < n := by omega
      have q0 := hE.box.c0
      have q1 := hE.box.c1
      have ql := hE.box.lt
      clear hcell hmem hE hj hx hpg hy hk hyin
      go_wp2_with fail
      refine (HPAGE.out _).mono ?_
      rintro e w3 ⟨rfl, rfl⟩
      go_wp2_with fail
      refine (HGET.out _ hws.out).mono ?_
      rintro e w3 ⟨rfl, rfl⟩
      go_wp2_with fail
      refine (unpack_any x _).mono ?_
      cases hw : Hd.isWord x
      · rw [headOf_no hw]
        rintro e w3 ⟨rfl, hb3⟩
        have hR0 : R = false := by rw [HR.out]; exact all_snoc (q := q) (by have := HN.out; omega) (by rw [holdsAt, ← HY.out, ← HX.out, hw]; rfl)
        have HB := Lib.hid (HE.out.bel.trans ⟨hb3.mono (by omega), fun k _ hk => hb3.block k hk⟩)
        have hz3 := hb3.size
        subst hR0
        clear hb3 q0 q1 ql hw hq1
        go_wp2
        go_quiet (fail)
        go_wp2
        go_ret
        exact ⟨rfl, ⟨below_drawn' (HB.out.1.alloc (by omega) _) _, fun k hM hk => (Below.heap_alloc _ _ _ (Nat.lt_of_lt_of_le hk (by omega))).trans (HB.out.2 k hM hk)⟩, fun h => by cases h⟩
      · rw [headOf_yes hw]
        rintro e w3 ⟨rfl, hb3⟩
        have HWD := Lib.hid hw
        obtain ⟨w4, hw4⟩ : ∃ w4, w4 = w3.alloc (.cells #[.bool (decide (x % 2 = 1)), .bool (decide (x / 2 % 2 = 1)), .bool (decide (x / 4 % 2 = 1)), .int .i64 (nOf x), .int .i64 (x / 1024 % 4194304), .int .i64 (x / 4294967296)] 30) := ⟨_, rfl⟩
        have hb4 : Below wr.heap.size wr w4 := by rw [hw4]; exact hb3.alloc hb3.size _
        have x0 : w4.cell? ⟨w3.heap.size, 0, none⟩ = some (.bool (decide (x % 2 = 1))) := by rw [hw4]; simp [go_sem]
        have x1 : w4.cell? ⟨w3.heap.size, 1, none⟩ = some (.bool (decide (x / 2 % 2 = 1))) := by rw [hw4]; simp [go_sem]
        have x2 : w4.cell? ⟨w3.heap.size, 2, none⟩ = some (.bool (decide (x / 4 % 2 = 1))) := by rw [hw4]; simp [go_sem]
        have x3 : w4.cell? ⟨w3.heap.size, 3, none⟩ = some (.int .i64 (nOf x)) := by rw [hw4]; simp [go_sem]
        have x4 : w4.cell? ⟨w3.heap.size, 4, none⟩ = some (.int .i64 (x / 1024 % 4194304)) := by rw [hw4]; simp [go_sem]
        have x5 : w4.cell? ⟨w3.heap.size, 5, none⟩ = some (.int .i64 (x / 4294967296)) := by rw [hw4]; simp [go_sem]
        have xl : w3.heap.size < w4.heap.size := by rw [hw4]; simp
        have hE4 := HE.out.next h0 hb4
        have hJ4 := bides_more HJ.out HJJ.out hb4 (by omega)
        have HW4 := Lib.hid hw4
        obtain ⟨bp', op', ep, _, hcp⟩ := ((HP.out.below hE4.bel.1).pages) hpn0
        simp only [Option.some.injEq, Addr.mk.injEq, and_true] at ep
        obtain ⟨rfl, rfl⟩ := ep
        obtain ⟨p0, p1⟩ := hcp k hkp
        rw [show d.f k = pg by rw [HPG.out, pgAt, show (y / 16 - 1).toNat = k by have := HKK.out; omega]] at p0 p1
        have hbp4 : bp < w4.heap.size := by have := hE4.bel.1.size; omega
        have c1 := hE4.box.c1
        dsimp only at c1
        have cl := hE4.box.lt
        have H4 := Lib.hid (And.intro hE4 hJ4)
        have k0 : (0 : Int) ≤ k := by omega
        have k1 : (k : Int) < np := by omega
        clear hcp hb3 hw hw4 hb4 hE4 hJ4 q0 q1 ql hq1
        go_wp2
        rw [← HW4.out]
        go_still_tail 12, (by kernel_rfl)
        change wpList _ _ _ _ _ w4.drew
        have hb5 : Below w4.heap.size w4 w4.drew := below_drawn' (Below.refl _ _) 1
        have hE5 := H4.out.1.kept (W' := w4.drew) ⟨hb5.mono (by have := H4.out.1.bel.1.size; omega), fun _ _ _ => rfl⟩
        have hJ5 := HJ.out _ (more M wr.heap.size w4.heap.size) _ _ w4.drew H4.out.2 (hb5.mono (by have := H4.out.1.bel.1.size; omega)) (fun _ _ _ => rfl) (fun _ hk => .inl hk)
        have HCALL := Lib.hid (HK.out _ _ y w4.drew (show xs.take q ++ [y] <+: xs by rw [HY.out, prefix_next (by have := HN.out; omega)]; exact List.take_prefix _ _) (by rw [← HX.out]; exact HWD.out) hJ5 (HZ.out.over hE5.bel.1 hn0) hE5.fit)
        rw [← HX.out, ← HPG.out] at HCALL
        have HE5 := Lib.hid hE5
        clear hb5 hE5 hJ5 x0 x1 x2 x3 x4 x5 xl p0 p1 hbp4 c1 cl
        generalize w4.drew = w5 at HCALL HE5 ⊢
        go_wp2_with fail
        refine HCALL.out.mono ?_
        rintro e w6 ⟨rfl, hk6, hj6⟩
        have HE6 := Lib.hid (HE5.out.kept hk6)
        have HJ6 := Lib.hid hj6
        clear hk6 hj6
        cases hpy : p y
        · have hR0 : R = false := by rw [HR.out]; exact all_snoc (q := q) (by have := HN.out; omega) (by rw [holdsAt, ← HY.out, hpy, Bool.and_false])
          subst hR0
          clear hpy
          go_wp2
          go_ret
          exact ⟨rfl, HE6.out.bel, fun h => by cases h⟩
        · have HG2 : Hid (∀ j, j < q + 1 → holdsAt d p (xs.getD j 0) = true) := Lib.hid (fun j hj => by
            by_cases e : j = q
            · rw [e, ← HY.out, holdsAt, ← HX.out, HWD.out, hpy]; rfl
            · exact HG.out j (by omega))
          have HM2 : Hid (∃ M, Ev w n₀ M₀ ⟨sw, ⟨some ⟨bp, op, none⟩, np, cp⟩, su, sc⟩ (some ⟨b, off, none⟩) n xs M w6 ∧ J M (xs.take (q + 1)) w6) := Lib.hid ⟨_, HE6.out, by
            have := HJ6.out hpy
            rwa [HY.out, prefix_next (by have := HN.out; omega)] at this⟩
          clear hpy
          go_wp2
          go_roundw
          case rel => exact ⟨q + 1, by omega, by go_num, HG2, HM2⟩
          case measure => simp [intOf]; omega
    · obtain rfl : q = n := by omega
      have hRt : R = true := by rw [HR.out]; exact all_every (fun j hj => HG.out j (by have := HN.out; omega))
      obtain ⟨M, hE, hj⟩ := HM.out
      rw [List.take_of_length_le (by have := HN.out; omega)] at hj
      have HE := Lib.hid hE
      have HJJ := Lib.hid hj
      subst hRt
      clear hE hj
      go_wp2
      go_ret
      exact ⟨rfl, HE.out.bel, fun _ => ⟨_, HJJ.out⟩⟩
theorem every_any (hp : Hp w n₀ s d) (h0 : n₀ ≤ w.heap.size) (hn0 : 0 < n₀) (hz : Cl.Sz w) (hf : firstB s d = true) (eg : ∀ args w, (callFunc gf args).run Tryz.prog w = .ok (.enter gf args) w) (hJ : Cl.Bides n₀ J) (j0 : J M₀ [] w) (hm0 : ∀ k, M₀ k → k < w.heap.size)
    (hask : Asks gf lb n₀ d p (Cl.allS d.f s.p.n) J) :
    Calls Tryz.prog 41 #[(.agg #[.slice s.w.a s.w.n s.w.c, .slice s.p.a s.p.n s.p.c, .slice (s.u 0).a (s.u 0).n (s.u 0).c, .slice (s.u 1).a (s.u 1).n (s.u 1).c, .slice (s.u 2).a (s.u 2).n (s.u 2).c, .slice s.c.a s.c.n s.c.c]), .func (.func gf) #[] lb] w (Asked n₀ M₀ w J (Cl.allS d.f s.p.n) ((Cl.allS d.f s.p.n).all (holdsAt d p))) :=
  every_core s d w n₀ M₀ gf lb p J _ _ rfl rfl hp h0 hn0 hz hf eg hJ j0 hm0 hask
end
end Go.Proofs.YtdmclfolooiccaaGreatDoor
end
section
namespace Go.Proofs.YtdmclfolooiccaaGreatDoor
open Go.RowKit
set_option maxRecDepth 100000

theorem info_page : (Tryz.prog.info? 74).map (fun i => (i.zero, i.size, i.bytes)) = some (some (.agg #[.int .i64 0, .int .i64 0]), 2, 16) := by kernel_rfl
theorem info_boolT : (Tryz.prog.info? 4).map (fun i => (i.zero, i.size, i.bytes)) = some (some (.bool false), 1, 1) := by kernel_rfl
def zPages (n : Nat) : Obj := .cells (madeCells #[.int .i64 0, .int .i64 0] (n * 2)) 74
def zBools (n : Nat) : Obj := .cells (madeCells #[.bool false] n) 4
theorem make_pages (n : Nat) (h : n ≤ 1000) (w : World) : (Instr.makeSlice 23 (.int .i64 (n : Int)) (.int .i64 (n : Int))).run Tryz.prog w = .ok (.slice (some ⟨w.heap.size, 0, none⟩) n n) (w.alloc (zPages n)) := by
  obtain ⟨i0, hi, hz0, hz1, hz2⟩ := info_parts info_page
  have := run_make (P := Tryz.prog) w 23 74 i0 _ Tryz.underlying23 hi hz0 .i64 .i64 n n (by omega) (Int.le_refl _) (by rw [hz2]; omega) (by omega)
  rw [hz1] at this
  unfold zPages
  simpa [Value.cells] using this
theorem make_bools (n : Nat) (h : n ≤ 1000) (w : World) : (Instr.makeSlice 26 (.int .i64 (n : Int)) (.int .i64 (n : Int))).run Tryz.prog w = .ok (.slice (some ⟨w.heap.size, 0, none⟩) n n) (w.alloc (zBools n)) := by
  obtain ⟨i0, hi, hz0, hz1, hz2⟩ := info_parts info_boolT
  have := run_make (P := Tryz.prog) w 26 4 i0 _ Tryz.underlying26 hi hz0 .i64 .i64 n n (by omega) (Int.le_refl _) (by rw [hz2]; omega) (by omega)
  rw [hz1] at this
  unfold zBools
  simpa [Value.cells] using this
/-- Pages that are free; cards that are clean. -/
theorem pages_made (w : World) (n : Nat) : Cl.PRow (w.alloc (zPages n)) (w.heap.size + 1) (some ⟨w.heap.size, 0, none⟩) n (fun _ => (0, 0)) := fun _ => ⟨w.heap.size, 0, rfl, by omega, fun i hi => by
  have h0 : i * 2 < n * 2 := by omega
  have h1 : i * 2 + 1 < n * 2 := by omega
  constructor
  · simp [zPages, World.cell?_alloc_at _ _ _ _ rfl, madeCells, h0]
  · simp [zPages, World.cell?_alloc_at _ _ _ _ rfl, madeCells, h1]⟩
theorem cards_made (w : World) (n : Nat) : BRow (w.alloc (zBools n)) (w.heap.size + 1) (some ⟨w.heap.size, 0, none⟩) n (fun _ => false) := fun _ => ⟨w.heap.size, 0, rfl, by omega, fun i hi => by
  simp [zBools, World.cell?_alloc_at _ _ _ _ rfl, madeCells, hi, Nat.mod_one]⟩
theorem pages_in (V : World) (o : Obj) (n s : Nat) (hs : V.heap.size = s) : Cl.PRow (((V.alloc (zPages n)).alloc o).drew) (((V.alloc (zPages n)).alloc o).drew).heap.size (some ⟨s, 0, none⟩) n (fun _ => (0, 0)) := by
  subst hs
  exact ((pages_made V n).below ((Below.refl _ _).alloc (by simp) o)).more (by simp [World.drew])
theorem pages_in' (V : World) (o : Obj) (n s : Nat) (hs : V.heap.size = s) : Cl.PRow (((V.alloc o).alloc (zPages n)).drew) (((V.alloc o).alloc (zPages n)).drew).heap.size (some ⟨s + 1, 0, none⟩) n (fun _ => (0, 0)) := by
  subst hs
  have h := pages_made (V.alloc o) n
  rw [World.size_alloc] at h
  exact h.more (by simp [World.drew])
theorem cards_in (V : World) (o : Obj) (n s : Nat) (hs : V.heap.size = s) : BRow (((V.alloc (zBools n)).alloc o).drew) (((V.alloc (zBools n)).alloc o).drew).heap.size (some ⟨s, 0, none⟩) n (fun _ => false) := by
  subst hs
  exact ((cards_made V n).below ((Below.refl _ _).alloc (by simp) o)).more (by simp [World.drew])
theorem cards_in' (V : World) (o : Obj) (n s : Nat) (hs : V.heap.size = s) : BRow (((V.alloc o).alloc (zBools n)).drew) (((V.alloc o).alloc (zBools n)).drew).heap.size (some ⟨s + 1, 0, none⟩) n (fun _ => false) := by
  subst hs
  have h := cards_made (V.alloc o) n
  rw [World.size_alloc] at h
  exact h.more (by simp [World.drew])
def noHs : Hs := ⟨⟨none, 0, 0⟩, ⟨none, 0, 0⟩, Ls.noSl, ⟨none, 0, 0⟩⟩
def NewOut (w : World) (n : Nat) (e : Ending) (w' : World) : Prop :=
  ∃ (A C : Option Addr) (g cw : Nat), e = .returned (.tuple #[.agg #[.slice (some ⟨g, 0, none⟩) (16 * n) cw, .slice A n n, .slice none 0 0, .slice none 0 0, .slice none 0 0, .slice C (2 * n) (2 * n)], .int .i64 0]) ∧
    Row w' w'.heap.size (some ⟨g, 0, none⟩) (16 * n) (List.replicate (16 * n) 0) ∧ Cl.PRow w' w'.heap.size A n (fun _ => (0, 0)) ∧ BRow w' w'.heap.size C (2 * n) (fun _ => false) ∧ Below w.heap.size w w'
theorem put6_gen {W : World} {b : Nat} (h : ∀ j, j < 6 → ∃ v, W.cell? ⟨b, j, none⟩ = some v) (v0 v1 v2 v3 v4 v5 : Value) (o1 o2 : Obj) :
    (((put6 W b v0 v1 v2 v3 v4 v5).alloc o1).alloc o2).cell? ⟨b, 0, none⟩ = some v0 ∧ (((put6 W b v0 v1 v2 v3 v4 v5).alloc o1).alloc o2).cell? ⟨b, 1, none⟩ = some v1 ∧ (((put6 W b v0 v1 v2 v3 v4 v5).alloc o1).alloc o2).cell? ⟨b, 2, none⟩ = some v2 ∧
    (((put6 W b v0 v1 v2 v3 v4 v5).alloc o1).alloc o2).cell? ⟨b, 3, none⟩ = some v3 ∧ (((put6 W b v0 v1 v2 v3 v4 v5).alloc o1).alloc o2).cell? ⟨b, 4, none⟩ = some v4 ∧ (((put6 W b v0 v1 v2 v3 v4 v5).alloc o1).alloc o2).cell? ⟨b, 5, none⟩ = some v5 := by
  obtain ⟨_, h0⟩ := h 0 (by decide)
  obtain ⟨_, h1⟩ := h 1 (by decide)
  obtain ⟨_, h2⟩ := h 2 (by decide)
  obtain ⟨_, h3⟩ := h 3 (by decide)
  obtain ⟨_, h4⟩ := h 4 (by decide)
  obtain ⟨_, h5⟩ := h 5 (by decide)
  have hl : b < W.heap.size := World.block_lt_of_cell? W _ h0
  refine ⟨?_, ?_, ?_, ?_, ?_, ?_⟩ <;> (rw [World.cell?_alloc_past _ _ _ (by simp [put6_size]; omega), World.cell?_alloc_past _ _ _ (by rw [put6_size]; exact hl)]; simp [put6, go_sem, h0, h1, h2, h3, h4, h5])
theorem put6_other (w : World) (b : Nat) (v0 v1 v2 v3 v4 v5 : Value) {k : Nat} (h : ¬ k = b) : (put6 w b v0 v1 v2 v3 v4 v5).heap[k]? = w.heap[k]? :=
  (Below.heap_setCell _ _ _ _ h).trans ((Below.heap_setCell _ _ _ _ h).trans ((Below.heap_setCell _ _ _ _ h).trans ((Below.heap_setCell _ _ _ _ h).trans ((Below.heap_setCell _ _ _ _ h).trans (Below.heap_setCell _ _ _ _ h)))))
theorem new_end {w w1 W' : World} {o o1 o2 : Obj} {n m k g c : Nat} {A C : Option Addr} {v0 v1 v2 v3 v4 v5 : Value} (hm : 16 * n = m) (hk : 2 * n = k) (hmine : Mine w1 (w.alloc o).heap.size 3 g m c (List.replicate m 0)) (hb1 : Below (w.alloc o).heap.size (w.alloc o) w1)
    (hW : W' = (((put6 w1 w.heap.size v0 v1 v2 v3 v4 v5).alloc o1).alloc o2).drew) (hp : Cl.PRow W' W'.heap.size A n (fun _ => (0, 0))) (hc : BRow W' W'.heap.size C k (fun _ => false)) :
    NewOut w n (.returned (.tuple #[.agg #[.slice (some ⟨g, 0, none⟩) m c, .slice A n n, .slice none 0 0, .slice none 0 0, .slice none 0 0, .slice C k k], .int .i64 0])) W' := by
  subst hm hk
  have hg := hmine.2.1
  have hs1 := hb1.size
  rw [World.size_alloc] at hg hs1
  have hbel : Below w.heap.size w W' := by
    rw [hW]
    exact below_drawn' (((below_put6 (((Below.refl _ _).alloc (Nat.le_refl _) o).trans (hb1.mono (by simp))) (Nat.le_refl _) _ _ _ _ _ _).alloc (by rw [put6_size]; omega) _).alloc (by simp [put6_size]; omega) _) 1
  refine ⟨A, C, g, c, rfl, ?_, hp, hc, hbel⟩
  have hr := row_same (w' := W') hmine.row (fun _ x hx => by
    cases hx
    have hgl := hmine.2.2.1
    rw [hW]
    show ((((put6 w1 w.heap.size v0 v1 v2 v3 v4 v5).alloc o1).alloc o2)).heap[g]? = _
    rw [Below.heap_alloc _ _ _ (by simp [put6_size]; omega), Below.heap_alloc _ _ _ (by rw [put6_size]; exact hgl), put6_other _ _ _ _ _ _ _ _ (by omega)])
  refine hr.more ?_
  rw [hW]
  simp [World.drew, put6_size]
  omega
theorem new_ok (n : Nat) (w : World) (h0 : 1 ≤ n) (h1 : n ≤ 64) : Calls Tryz.prog 12 #[.int .i64 (n : Int)] w (NewOut w n) := by
  have hnew := fun W => Ar.new_ok (n : Int) W (by omega) (by omega)
  obtain ⟨m, hm⟩ : ∃ m, 16 * n = m := ⟨_, rfl⟩
  obtain ⟨k, hk⟩ : ∃ k, 2 * n = k := ⟨_, rfl⟩
  simp only [show ((n : Int) * 16).toNat = m by omega] at hnew
  have HNEW := Lib.hid hnew
  have mp := make_pages n (by omega)
  have mb := make_bools k (by omega)
  have d1 : (m : Int) / 8 = k := by omega
  have d2 : Int.tdiv (m : Int) 8 = k := by rw [Int.tdiv_eq_ediv_of_nonneg (by omega)]; exact d1
  have HM := Lib.hid hm
  have HK := Lib.hid hk
  have hm2 : m ≤ 100000 := by omega
  clear hnew hm hk
  go_enter Tryz.func12, Tryz.ntmps12
  go_wp2_with fail
  refine (HNEW.out _).mono ?_
  rintro e w1 ⟨g, c, rfl, hmine, hb1⟩
  have HMI := Lib.hid hmine
  have HB1 := Lib.hid hb1
  have hs1 := hb1.size
  simp only [World.size_alloc] at hs1
  have zc : ∀ j, j < 6 → w1.cell? ⟨w.heap.size, j, none⟩ = some (.slice none 0 0) := fun j hj => (hb1.cell (p := ⟨w.heap.size, j, none⟩) (by simp)).trans (by
    match j, hj with
    | 0, _ => simp [go_sem]
    | 1, _ => simp [go_sem]
    | 2, _ => simp [go_sem]
    | 3, _ => simp [go_sem]
    | 4, _ => simp [go_sem]
    | 5, _ => simp [go_sem])
  have zf : ∀ j, w1.frozen? ⟨w.heap.size, j, none⟩ = false := fun j => (hb1.frozen (p := ⟨w.heap.size, j, none⟩) (by simp)).trans (by simp [go_sem])
  have y0 := zc 0 (by decide)
  have y1 := zc 1 (by decide)
  have y2 := zc 2 (by decide)
  have y3 := zc 3 (by decide)
  have y4 := zc 4 (by decide)
  have y5 := zc 5 (by decide)
  have z0 := zf 0
  have z1 := zf 1
  have z2 := zf 2
  have z3 := zf 3
  have z4 := zf 4
  have z5 := zf 5
  have zl : w.heap.size < w1.heap.size := by omega
  have HC6 := Lib.hid (fun j hj => (⟨_, zc j hj⟩ : ∃ v, w1.cell? ⟨w.heap.size, j, none⟩ = some v))
  clear hmine hb1 zc zf
  go_wp2
  go_region
  all_goals go_wp2
  · refine bodyPost_ret (v := .tuple #[.agg #[.slice (some ⟨g, 0, none⟩) m c, .slice (some ⟨w1.heap.size, 0, none⟩) n n, .slice none 0 0, .slice none 0 0, .slice none 0 0, .slice (some ⟨w1.heap.size + 1, 0, none⟩) k k], .int .i64 0]) ?_ rfl ?_
    rotate_left
    · refine new_end HM.out HK.out HMI.out HB1.out rfl ?_ ?_
      · exact pages_in _ _ n _ (put6_size w1 w.heap.size _ _ _ _ _ _)
      · exact cards_in' _ _ k _ (put6_size w1 w.heap.size _ _ _ _ _ _)
    · obtain ⟨k0, k1, k2, k3, k4, k5⟩ := put6_gen (W := w1) (b := w.heap.size) HC6.out (.slice (some ⟨g, 0, none⟩) m c) (.slice (some ⟨w1.heap.size, 0, none⟩) n n) (.slice none 0 0) (.slice none 0 0) (.slice none 0 0) (.slice (some ⟨w1.heap.size + 1, 0, none⟩) k k) (zPages n) (zBools k)
      unfold put6 at k0 k1 k2 k3 k4 k5
      clear y0 y1 y2 y3 y4 y5
      simp [results, Tryz.results12, go_sem, k0, k1, k2, k3, k4, k5]
  · refine bodyPost_ret (v := .tuple #[.agg #[.slice (some ⟨g, 0, none⟩) m c, .slice (some ⟨w1.heap.size + 1, 0, none⟩) n n, .slice none 0 0, .slice none 0 0, .slice none 0 0, .slice (some ⟨w1.heap.size, 0, none⟩) k k], .int .i64 0]) ?_ rfl ?_
    rotate_left
    · refine new_end HM.out HK.out HMI.out HB1.out rfl ?_ ?_
      · exact pages_in' _ _ n _ (put6_size w1 w.heap.size _ _ _ _ _ _)
      · exact cards_in _ _ k _ (put6_size w1 w.heap.size _ _ _ _ _ _)
    · obtain ⟨k0, k1, k2, k3, k4, k5⟩ := put6_gen (W := w1) (b := w.heap.size) HC6.out (.slice (some ⟨g, 0, none⟩) m c) (.slice (some ⟨w1.heap.size + 1, 0, none⟩) n n) (.slice none 0 0) (.slice none 0 0) (.slice none 0 0) (.slice (some ⟨w1.heap.size, 0, none⟩) k k) (zBools k) (zPages n)
      unfold put6 at k0 k1 k2 k3 k4 k5
      clear y0 y1 y2 y3 y4 y5
      simp [results, Tryz.results12, go_sem, k0, k1, k2, k3, k4, k5]
end Go.Proofs.YtdmclfolooiccaaGreatDoor
end
section
namespace Go.Proofs.YtdmclfolooiccaaGreatDoor.Cl
open Go.Proofs.YtdmclfolooiccaaGreatDoor
set_option maxRecDepth 100000
open Go.RowKit

def findO (f : Nat → Int × Int) (n : Nat) (m : Int) : Option Nat := if mayB f n && runB m then (List.range (n + 1 - m.toNat)).find? (fun k => freeB f k m.toNat) else none
def findV (f : Nat → Int × Int) (n : Nat) (m : Int) : Int := match findO f n m with | some k => k | none => 0
def findS (f : Nat → Int × Int) (n : Nat) (m : Int) : Bool := (findO f n m).isSome
theorem findO_some {f : Nat → Int × Int} {n : Nat} {m : Int} {k : Nat} : findO f n m = some k ↔ mayB f n = true ∧ runB m = true ∧ k + m.toNat ≤ n ∧ freeB f k m.toNat = true ∧ ∀ j, j < k → freeB f j m.toNat = false := by
  unfold findO
  by_cases h : mayB f n = true ∧ runB m = true
  · have hm := (runB_iff m).1 h.2
    rw [if_pos (by simp [h.1, h.2]), List.find?_range_eq_some]
    simp only [h.1, h.2, true_and, List.mem_range, Bool.not_eq_true', and_left_comm]
    constructor
    · rintro ⟨a, b, c⟩; exact ⟨by omega, by simpa using b, c⟩
    · rintro ⟨a, b, c⟩; exact ⟨by omega, by simpa using b, c⟩
  · rw [if_neg (by simpa using h)]
    constructor
    · intro h'; cases h'
    · rintro ⟨a, b, _⟩; exact absurd ⟨a, b⟩ h
theorem findO_none {f : Nat → Int × Int} {n : Nat} {m : Int} (h : ∀ k, k + m.toNat ≤ n → freeB f k m.toNat = false) : findO f n m = none := by
  cases e : findO f n m with
  | none => rfl
  | some k =>
    have := findO_some.1 e
    rw [h k this.2.2.1] at this
    exact absurd this.2.2.2.1 (by decide)
theorem findO_bad {f : Nat → Int × Int} {n : Nat} {m : Int} (h : mayB f n = false ∨ runB m = false) : findO f n m = none := by
  cases e : findO f n m with
  | none => rfl
  | some k =>
    have := findO_some.1 e
    rcases h with h | h <;> rw [h] at this <;> simp at this
theorem found {f : Nat → Int × Int} {n : Nat} {m : Int} {k : Nat} (h : findO f n m = some k) :
    Ending.returned (.tuple #[.int .i64 k, .bool true]) = .returned (.tuple #[.int .i64 (findV f n m), .bool (findS f n m)]) := by
  unfold findV findS; rw [h]; rfl
theorem nowhere {f : Nat → Int × Int} {n : Nat} {m : Int} (h : findO f n m = none) :
    Ending.returned (.tuple #[.int .i64 0, .bool false]) = .returned (.tuple #[.int .i64 (findV f n m), .bool (findS f n m)]) := by
  unfold findV findS; rw [h]; rfl

/-- None of the places before j serves. -/
def Passed (f : Nat → Int × Int) (m : Nat) (j : Nat) : Prop := ∀ i, i < j → freeB f i m = false
theorem Passed.zero (f : Nat → Int × Int) (m : Nat) : Passed f m 0 := fun i h => absurd h (by omega)
theorem Passed.next {f : Nat → Int × Int} {m j : Nat} (h : Passed f m j) (hj : freeB f j m = false) : Passed f m (j + 1) := fun i hi => by
  by_cases e : i = j
  · rw [e]; exact hj
  · exact h i (by omega)
/-- The first t pages from j on are free. -/
def Open (f : Nat → Int × Int) (j t : Nat) : Prop := ∀ i, i < t → (f (j + i)).1 = 0
theorem Open.zero (f : Nat → Int × Int) (j : Nat) : Open f j 0 := fun i h => absurd h (by omega)
theorem Open.next {f : Nat → Int × Int} {j t : Nat} (h : Open f j t) (ht : (f (j + t)).1 = 0) : Open f j (t + 1) := fun i hi => by
  by_cases e : i = t
  · rw [e]; exact ht
  · exact h i (by omega)

set_option maxHeartbeats 2000000 in
theorem find_core (B : Nat) (A : Option Addr) (n c : Nat) (f : Nat → Int × Int) (m : Nat) (w : World) (hM : mayB f n = true) (hm1 : 1 ≤ m) (hm4 : m ≤ 4) (hnc : n ≤ c) (hr : PRow w B A n f) (hB : B ≤ w.heap.size) :
    Calls Tryz.prog 83 #[.slice A n c, .int .i64 m] w fun e w' => e = .returned (.tuple #[.int .i64 (findV f n m), .bool (findS f n m)]) ∧ Below w.heap.size w w' := by
  obtain ⟨n1, n64, -, -⟩ := (mayB_iff f n).1 hM
  have HM := Lib.hid hM
  have HR := Lib.hid hr
  have hrun : runB (m : Int) = true := (runB_iff _).2 (by omega)
  have HRun := Lib.hid hrun
  clear hM hr
  go_enter Tryz.func83, Tryz.ntmps83
  go_wp2
  go_step3
  go_wp2_with fail
  refine (may_yes B _ _ _ _ _ HM.out HR.out hB).mono ?_
  rintro e w1 ⟨rfl, hb1⟩
  have HB1 := Lib.hid hb1
  clear hb1
  go_wp2_with fail
  refine (isRun_any _ _).mono ?_
  rintro e w2 ⟨rfl, rfl⟩
  go_wp2
  go_step3
  go_wp2
  clear hrun
  go_loopg [22] (n + 1) (fun g i wr => ∃ j : Nat, j + g = n + 1 ∧ i = .int .i64 j ∧ Passed f m j ∧ Below w.heap.size w wr)
  case atStart => exact ⟨0, by omega, rfl, Passed.zero f m, HB1.out⟩
  case round =>
    obtain ⟨j, hj, rfl, hp, hb⟩ := hrel
    have HP := Lib.hid hp
    have HB := Lib.hid hb
    have hz := hb.size
    have HJ := Lib.hid hj
    have hj1 : j ≤ n + 1 := by omega
    clear hp hb hj
    obtain ⟨wo, rfl⟩ : ∃ wo : World, wo = wr := ⟨_, rfl⟩
    obtain ⟨go, rfl⟩ : ∃ go : Nat, go = gk := ⟨_, rfl⟩
    by_cases hlt : (j : Int) < n - m + 1
    · obtain ⟨b, off, rfl, hbB, -⟩ := (HR.out.over HB.out hB) (by omega)
      have HPart := Lib.hid (HR.out.part (k := j) (m := m) (by omega))
      have hd : decide ((j : Int) < n - m + 1) = true := by simpa using hlt
      go_wp2
      rw [show j + m - j = m by omega]
      go_loopg [32] m (fun g i wi => ∃ t : Nat, t + g = m ∧ i = .int .i64 t ∧ Open f j t ∧ Below w.heap.size w wi)
      case atStart => exact ⟨0, by omega, rfl, Open.zero f j, HB.out⟩
      case round =>
        obtain ⟨t, ht, rfl, ho, hb2⟩ := hrel
        have HO := Lib.hid ho
        have HB2 := Lib.hid hb2
        have hz2 := hb2.size
        have HG := Lib.hid ht
        have ht1 : t ≤ m := by omega
        clear ho ht
        by_cases htm : t < m
        · obtain ⟨b', off', ea, hb', hc'⟩ := ((HR.out.over hb2 hB).part (k := j) (m := m) (by omega)) (by omega)
          simp at ea
          obtain ⟨rfl, rfl⟩ := ea
          obtain ⟨p0, p1⟩ := hc' t htm
          clear hc' hb2
          by_cases hf : (f (j + t)).1 = 0
          · have HO2 := Lib.hid (HO.out.next hf)
            have e0 : ((f (j + t)).1 != 0) = false := by simpa using hf
            clear hf
            go_wp2
            go_roundg (gk - 1)
            case rel => exact ⟨t + 1, by have := HG.out; omega, by go_num, HO2.out, HB2.out.alloc hz2 _⟩
            case measure => have := HG.out; omega
          · have HP2 := Lib.hid (HP.out.next (freeB_not htm hf))
            have e0 : ((f (j + t)).1 != 0) = true := by simpa using hf
            clear hf
            go_wp2
            go_roundg (go - 1)
            case rel => exact ⟨j + 1, by have := HJ.out; omega, by go_num, HP2.out, HB2.out.alloc hz2 _⟩
            case measure => have := HJ.out; omega
        · obtain rfl : t = m := by omega
          have HF := Lib.hid (findO_some.2 ⟨HM.out, HRun.out, by simp; omega, by simpa using (freeB_iff f j t).2 HO.out, fun i hi => by rw [Int.toNat_natCast]; exact HP.out i hi⟩ : findO f n t = some j)
          clear hb2
          go_wp2
          try rw [Exit.noGoto_ret]
          go_ret2
          exact ⟨found HF.out, HB2.out⟩
    · have hd : decide ((j : Int) < n - m + 1) = false := by simpa using hlt
      have HN := Lib.hid (findO_none (f := f) (n := n) (m := m) (fun i hi => by have := HP.out i (by simp at hi; omega); simpa using this))
      go_wp2
      try rw [Exit.noGoto_ret]
      go_ret2
      exact ⟨nowhere HN.out, HB.out⟩
end Go.Proofs.YtdmclfolooiccaaGreatDoor.Cl
end
section
namespace Go.Proofs.YtdmclfolooiccaaGreatDoor.Cl
open Go.Proofs.YtdmclfolooiccaaGreatDoor
set_option maxRecDepth 100000
open Go.RowKit

theorem isRun_no (c : Int) (w : World) (h : runB c = false) :
    Calls Tryz.prog 111 #[.int .i64 c] w fun e w' => e = .returned (.bool false) ∧ w = w' := by
  rw [← h]; exact isRun_any c w
theorem isRun_yes (c : Int) (w : World) (h : runB c = true) :
    Calls Tryz.prog 111 #[.int .i64 c] w fun e w' => e = .returned (.bool true) ∧ w = w' := by
  rw [← h]; exact isRun_any c w
theorem isClass_no (c : Int) (w : World) (h : clB c = false) :
    Calls Tryz.prog 125 #[.int .i64 c] w fun e w' => e = .returned (.bool false) ∧ w = w' := by
  rw [← h]; exact isClass_any c w
theorem isClass_yes (c : Int) (w : World) (h : clB c = true) :
    Calls Tryz.prog 125 #[.int .i64 c] w fun e w' => e = .returned (.bool true) ∧ w = w' := by
  rw [← h]; exact isClass_any c w

theorem pfind_any (B : Nat) (A : Option Addr) (n c : Nat) (f : Nat → Int × Int) (m : Int) (w : World) (hn : n ≤ 1000) (hnc : n ≤ c) (hr : PRow w B A n f) (hB : B ≤ w.heap.size) :
    Calls Tryz.prog 83 #[.slice A n c, .int .i64 m] w fun e w' => e = .returned (.tuple #[.int .i64 (findV f n m), .bool (findS f n m)]) ∧ Below w.heap.size w w' := by
  cases hM : mayB f n
  · have HN := Lib.hid (findO_bad (f := f) (n := n) (m := m) (.inl hM))
    have HM := Lib.hid hM
    have HR := Lib.hid hr
    clear hM hr
    go_enter Tryz.func83, Tryz.ntmps83
    go_wp2
    go_step3
    go_wp2_with fail
    refine (may_no B _ _ _ _ _ HM.out hn HR.out hB).mono ?_
    rintro e w1 ⟨rfl, hb1⟩
    go_wp2
    try rw [Exit.noGoto_ret]
    go_ret2
    exact ⟨nowhere HN.out, hb1⟩
  cases hrun : runB m
  · have HN := Lib.hid (findO_bad (f := f) (n := n) (m := m) (.inr hrun))
    have HM := Lib.hid hM
    have HR := Lib.hid hr
    have HRun := Lib.hid hrun
    clear hM hr hrun
    go_enter Tryz.func83, Tryz.ntmps83
    go_wp2
    go_step3
    go_wp2_with fail
    refine (may_yes B _ _ _ _ _ HM.out HR.out hB).mono ?_
    rintro e w1 ⟨rfl, hb1⟩
    go_wp2_with fail
    refine (isRun_no _ _ HRun.out).mono ?_
    rintro e w2 ⟨rfl, rfl⟩
    go_wp2
    try rw [Exit.noGoto_ret]
    go_ret2
    exact ⟨nowhere HN.out, hb1⟩
  · have hm := (runB_iff m).1 hrun
    obtain ⟨k, rfl⟩ : ∃ k : Nat, m = k := ⟨m.toNat, by omega⟩
    exact find_core B A n c f k w hM (by omega) (by omega) hnc hr hB

set_option maxHeartbeats 400000 in
theorem rfree_any (B : Nat) (A : Option Addr) (n c : Nat) (f : Nat → Int × Int) (a m : Nat) (w : World) (hn : n ≤ 1000) (ham : a + m ≤ n) (hr : PRow w B A n f) :
    Calls Tryz.prog 67 #[.slice A n c, .int .i64 a, .int .i64 m] w fun e w' => e = .returned (.bool (freeB f a m)) ∧ w = w' := by
  have HR := Lib.hid hr
  clear hr
  go_enter Tryz.func67, Tryz.ntmps67
  go_wp2
  go_loop [7] (fun i => ∃ q : Nat, a ≤ q ∧ q ≤ a + m ∧ i = .int .i64 q ∧ Open f a (q - a)) (fun i => a + m - (intOf i).toNat)
  case atStart => exact ⟨a, by omega, by omega, rfl, by rw [Nat.sub_self]; exact Open.zero f a⟩
  case round =>
    obtain ⟨q, hq1, hq2, rfl, ho⟩ := hrel
    have HO := Lib.hid ho
    clear ho
    by_cases hlt : q < a + m
    · obtain ⟨b, off, rfl, _, hc⟩ := HR.out (by omega)
      obtain ⟨c0, c1⟩ := hc q (by omega)
      have hd : decide ((q : Int) < a + m) = true := by simp; omega
      clear hc
      by_cases hf : (f q).1 = 0
      · have HO2 := Lib.hid (HO.out.next (by rw [show a + (q - a) = q by omega]; exact hf))
        have e0 : ((f q).1 != 0) = false := by simpa using hf
        clear hf
        go_wp2
        go_round
        case rel => exact ⟨q + 1, by omega, by omega, by go_num, by rw [show q + 1 - a = q - a + 1 by omega]; exact HO2.out⟩
        case measure => simp [intOf]; omega
      · have HF := Lib.hid (freeB_not (f := f) (a := a) (n := m) (j := q - a) (by omega) (by rw [show a + (q - a) = q by omega]; exact hf))
        have e0 : ((f q).1 != 0) = true := by simpa using hf
        clear hf
        go_wp2
        go_ret
        exact ⟨rint HF.out.symm, rfl⟩
    · have hd : decide ((q : Int) < a + m) = false := by simp; omega
      have HF := Lib.hid ((freeB_iff f a m).2 (by have := HO.out; rwa [show q - a = m by omega] at this))
      go_wp2
      go_ret
      exact ⟨rint HF.out.symm, rfl⟩
theorem rfree_yes (B : Nat) (A : Option Addr) (n c : Nat) (f : Nat → Int × Int) (a m : Nat) (w : World) (h : freeB f a m = true) (hn : n ≤ 1000) (ham : a + m ≤ n) (hr : PRow w B A n f) :
    Calls Tryz.prog 67 #[.slice A n c, .int .i64 a, .int .i64 m] w fun e w' => e = .returned (.bool true) ∧ w = w' := by
  rw [← h]; exact rfree_any B A n c f a m w hn ham hr
theorem rfree_no (B : Nat) (A : Option Addr) (n c : Nat) (f : Nat → Int × Int) (a m : Nat) (w : World) (h : freeB f a m = false) (hn : n ≤ 1000) (ham : a + m ≤ n) (hr : PRow w B A n f) :
    Calls Tryz.prog 67 #[.slice A n c, .int .i64 a, .int .i64 m] w fun e w' => e = .returned (.bool false) ∧ w = w' := by
  rw [← h]; exact rfree_any B A n c f a m w hn ham hr

set_option maxHeartbeats 1000000 in
theorem rfind_core (B : Nat) (A : Option Addr) (n c : Nat) (f : Nat → Int × Int) (m : Nat) (w : World) (hM : mayB f n = true) (hm1 : 1 ≤ m) (hm4 : m ≤ 4) (hr : PRow w B A n f) (hB : B ≤ w.heap.size) :
    Calls Tryz.prog 28 #[.slice A n c, .int .i64 m] w fun e w' => e = .returned (.tuple #[.int .i64 (findV f n m), .bool (findS f n m)]) ∧ Below w.heap.size w w' := by
  obtain ⟨n1, n64, -, -⟩ := (mayB_iff f n).1 hM
  have HM := Lib.hid hM
  have HR := Lib.hid hr
  have HRun := Lib.hid ((runB_iff (m : Int)).2 (by omega))
  clear hM hr
  go_enter Tryz.func28, Tryz.ntmps28
  go_wp2_with fail
  refine (rmay_yes B _ _ _ _ _ HM.out HR.out hB).mono ?_
  rintro e w1 ⟨rfl, hb1⟩
  have HR1 := Lib.hid (HR.out.over hb1 hB)
  have HB1 := Lib.hid hb1
  clear hb1
  have d1 : decide ((m : Int) < 1) = false := by simp; omega
  have d2 : decide (4 < (m : Int)) = false := by simp; omega
  go_wp2
  go_loop [7] (fun i => ∃ j : Nat, j ≤ n ∧ i = .int .i64 j ∧ Passed f m j) (fun i => n + 1 - (intOf i).toNat)
  case atStart => exact ⟨0, by omega, rfl, Passed.zero f m⟩
  case round =>
    obtain ⟨j, hj, rfl, hp⟩ := hrel
    have HP := Lib.hid hp
    clear hp
    by_cases hlt : j + m ≤ n
    · have hd : decide ((j : Int) + m ≤ n) = true := by simp; omega
      cases hf : freeB f j m
      · have HF := Lib.hid hf
        clear hf
        go_wp2_with fail
        refine (rfree_no B _ _ _ _ _ _ _ HF.out (by omega) hlt HR1.out).mono ?_
        rintro e w2 ⟨rfl, rfl⟩
        go_wp2
        go_round
        case rel => exact ⟨j + 1, by omega, by go_num, HP.out.next HF.out⟩
        case measure => simp [intOf]; omega
      · have HF := Lib.hid hf
        have HO := Lib.hid (findO_some.2 ⟨HM.out, HRun.out, by simp; omega, by simpa using hf, fun i hi => by rw [Int.toNat_natCast]; exact HP.out i hi⟩ : findO f n m = some j)
        clear hf
        go_wp2_with fail
        refine (rfree_yes B _ _ _ _ _ _ _ HF.out (by omega) hlt HR1.out).mono ?_
        rintro e w2 ⟨rfl, rfl⟩
        go_wp2
        go_ret2
        exact ⟨found HO.out, HB1.out⟩
    · have hd : decide ((j : Int) + m ≤ n) = false := by simp; omega
      have HN := Lib.hid (findO_none (f := f) (n := n) (m := m) (fun i hi => by have := HP.out i (by simp at hi; omega); simpa using this))
      go_wp2
      go_ret2
      exact ⟨nowhere HN.out, HB1.out⟩

theorem rfind_any (B : Nat) (A : Option Addr) (n c : Nat) (f : Nat → Int × Int) (m : Int) (w : World) (hn : n ≤ 1000) (hr : PRow w B A n f) (hB : B ≤ w.heap.size) :
    Calls Tryz.prog 28 #[.slice A n c, .int .i64 m] w fun e w' => e = .returned (.tuple #[.int .i64 (findV f n m), .bool (findS f n m)]) ∧ Below w.heap.size w w' := by
  cases hM : mayB f n
  · have HN := Lib.hid (findO_bad (f := f) (n := n) (m := m) (.inl hM))
    have HM := Lib.hid hM
    have HR := Lib.hid hr
    clear hM hr
    go_enter Tryz.func28, Tryz.ntmps28
    go_wp2_with fail
    refine (rmay_no B _ _ _ _ _ HM.out hn HR.out hB).mono ?_
    rintro e w1 ⟨rfl, hb1⟩
    go_wp2
    go_ret2
    exact ⟨nowhere HN.out, hb1⟩
  cases hrun : runB m
  · have HN := Lib.hid (findO_bad (f := f) (n := n) (m := m) (.inr hrun))
    have HM := Lib.hid hM
    have HR := Lib.hid hr
    by_cases h1 : m < 1
    · have d1 : decide (m < 1) = true := by simpa using h1
      clear hM hr hrun
      go_enter Tryz.func28, Tryz.ntmps28
      go_wp2_with fail
      refine (rmay_yes B _ _ _ _ _ HM.out HR.out hB).mono ?_
      rintro e w1 ⟨rfl, hb1⟩
      go_wp2
      go_ret2
      exact ⟨nowhere HN.out, hb1⟩
    · have d1 : decide (m < 1) = false := by simpa using h1
      have d2 : decide (4 < m) = true := by
        by_cases h : 4 < m
        · simpa using h
        · exact absurd ((runB_iff m).2 (by omega)) (by rw [hrun]; decide)
      clear hM hr hrun
      go_enter Tryz.func28, Tryz.ntmps28
      go_wp2_with fail
      refine (rmay_yes B _ _ _ _ _ HM.out HR.out hB).mono ?_
      rintro e w1 ⟨rfl, hb1⟩
      go_wp2
      go_ret2
      exact ⟨nowhere HN.out, hb1⟩
  · have hm := (runB_iff m).1 hrun
    obtain ⟨k, rfl⟩ : ∃ k : Nat, m = k := ⟨m.toNat, by omega⟩
    exact rfind_core B A n c f k w hM (by omega) (by omega) hr hB
end Go.Proofs.YtdmclfolooiccaaGreatDoor.Cl
end
section
namespace Go.Proofs.YtdmclfolooiccaaGreatDoor.Cl
open Go.Proofs.YtdmclfolooiccaaGreatDoor
set_option maxRecDepth 100000
open Go.RowKit

theorem info_page : (Tryz.prog.info? 74).map (fun i => (i.zero, i.size, i.bytes)) = some (some (.agg #[.int .i64 0, .int .i64 0]), 2, 16) := by kernel_rfl

/-- The row's block is as it was. -/
theorem PMine.kept {w w' : World} {base e g n c : Nat} {f : Nat → Int × Int} (h : PMine w base e g n c f) (hg : w'.heap[g]? = w.heap[g]?) (hs : w.heap.size ≤ w'.heap.size) : PMine w' base e g n c f := by
  obtain ⟨⟨h1, h2⟩, h3, h4, h5⟩ := h
  refine ⟨⟨h1, ?_⟩, h3, by omega, h5⟩
  rcases h2 with h2 | ⟨g', cap, cur, hv, hb, hh, hr⟩
  · exact .inl h2
  · simp only [Value.slice.injEq, Option.some.injEq, Addr.mk.injEq, and_true, true_and] at hv
    obtain ⟨rfl, rfl⟩ := hv
    exact .inr ⟨g, c, cur, rfl, hb, hg.trans hh, hr⟩
theorem PMine.alloc {w : World} {base e g n c : Nat} {f : Nat → Int × Int} (h : PMine w base e g n c f) (o : Obj) : PMine (w.alloc o) base e g n c f :=
  h.kept (Below.heap_alloc w o g h.2.2.1) (by simp)
theorem PMine.below {w w' : World} {base e g n c B : Nat} {f : Nat → Int × Int} (h : PMine w base e g n c f) (hb : Below B w w') (hg : g < B) : PMine w' base e g n c f :=
  h.kept (hb.block g hg) hb.size

/-- Pages a to a + m are p. -/
def fillF (f : Nat → Int × Int) (a m : Nat) (p : Int × Int) : Nat → Int × Int := fun j => if a ≤ j ∧ j < a + m then p else f j
theorem fillF_zero (f : Nat → Int × Int) (a : Nat) (p : Int × Int) : fillF f a 0 p = f := by
  funext j
  exact if_neg (by omega)
theorem fillF_succ (f : Nat → Int × Int) (a m : Nat) (p : Int × Int) : put (fillF f a m p) (a + m) p = fillF f a (m + 1) p := by
  funext j
  unfold put fillF
  by_cases e : j = a + m
  · rw [if_pos e, if_pos (by omega)]
  · rw [if_neg e]
    by_cases h : a ≤ j ∧ j < a + m
    · rw [if_pos h, if_pos (by omega)]
    · rw [if_neg h, if_neg (by omega)]

/-- A copy of the call's own was returned; all that was there is as it was. -/
def PMade (w : World) (n : Nat) (f : Nat → Int × Int) (e : Ending) (w' : World) : Prop :=
  ∃ g c, e = .returned (.slice (some ⟨g, 0, none⟩) n c) ∧ PMine w' w.heap.size 74 g n c f ∧ Below w.heap.size w w'

theorem pcells_of {w : World} {b off n : Nat} {f : Nat → Int × Int} (hc : ∀ i, i < n → w.cell? ⟨b, off + i * 2, none⟩ = some (.int .i64 (f i).1) ∧ w.cell? ⟨b, off + i * 2 + 1, none⟩ = some (.int .i64 (f i).2))
    (j : Nat) (u : Value) (hj : (pcells f n)[j]? = some u) : w.cell? ⟨b, off + j, none⟩ = some u := by
  have hjn : j < n * 2 := by
    have := (List.getElem?_eq_some_iff.1 hj).1
    rwa [pcells_length] at this
  rw [pcells_at f n j hjn] at hj
  obtain rfl := Option.some.inj hj
  by_cases hm : j % 2 = 0
  · have := (hc (j / 2) (by omega)).1
    rw [show off + j / 2 * 2 = off + j by omega] at this
    rw [this]
    simp [pcell, hm]
  · have := (hc (j / 2) (by omega)).2
    rw [show off + j / 2 * 2 + 1 = off + j by omega] at this
    rw [this]
    simp [pcell, hm]
theorem pcells_one {f : Nat → Int × Int} {n : Nat} : ∀ u ∈ pcells f n, u.oneCell' = true := by
  intro u hu
  obtain ⟨x, _, rfl⟩ := List.mem_map.1 hu
  rfl

theorem pclone_ok (B : Nat) (A : Option Addr) (n c : Nat) (f : Nat → Int × Int) (w : World) (hn : 0 < n) (hbig : n ≤ 1000) (hr : PRow w B A n f) :
    Calls Tryz.prog 51 #[.slice A n c] w (PMade w n f) := by
  obtain ⟨i0, hi, hz0, hz1, hz2⟩ := info_parts info_page
  obtain ⟨b, off, rfl, _, hc⟩ := hr hn
  have HC := Lib.hid hc
  have q22 : ∀ (w : World) (a : Option Addr) (n c n' c' : Nat), (binOp .eql 23 (.slice a n c) (.slice none n' c')).run Tryz.prog w = .ok (.bool a.isNone) w := fun w a n c n' c' => Lib.run_eql_slice_nil w _ _ a n c n' c' Tryz.underlying23
  have u22 : ∀ w, Sem.run Tryz.prog (underlying 23) w = .ok (TypeDesc.slice 74) w := run_underlying Tryz.underlying23
  clear hc hr
  go_enter Tryz.func51, Tryz.ntmps51
  go_wp2_with (at_builtin; refine wpList_append_own _ rfl _ _ 23 rfl w.heap.size 74 i0 (.agg #[.int .i64 0, .int .i64 0]) 2 16 Tryz.underlying23 hi hz0 hz1 hz2 rfl (by decide) _ _ _ rfl (World.ownsRow_made w #[] 0 (Nat.le_refl _) (Nat.zero_le _) rfl) ⟨b, off, none⟩ n c (pcells f n) rfl ?qc1 ?qc2 ?qc3 ?qc4 ?qc5 ?qc6 ?_)
  case qc1 => exact pcells_length f n
  case qc2 =>
    intro j u hj
    rw [Addr.add_lit]
    exact Lib.cell?_alloc_some _ (pcells_of HC.out j u hj)
  case qc3 => exact pcells_one
  case qc4 => unfold maxLen; omega
  case qc5 => omega
  case qc6 => simp
  intro v' w1 hown hgrow hnil
  have hown' : w1.ownsRow w.heap.size 74 2 v' n (pcells f n) := by simpa using hown
  obtain ⟨g, c', rfl, hm⟩ := pmine_of hown' hn
  have HM := Lib.hid hm
  clear hown hown' hnil hm
  go_wp2
  go_ret
  exact ⟨g, c', rfl, HM.out, ((Below.refl _ w).alloc (Nat.le_refl _) _).grown hgrow (by simp) (by intro k hk; simp [Value.ownBlock] at hk; omega)⟩

/-- Pages of a row of the caller's own were filled. -/
def Filled (w : World) (base g n c : Nat) (f : Nat → Int × Int) (e : Ending) (w' : World) : Prop :=
  e = .returned (.tuple #[]) ∧ PMine w' base 74 g n c f ∧ Below base w w'
set_option maxHeartbeats 400000 in
theorem fill_any (base g n c cc a m : Nat) (f : Nat → Int × Int) (p : Int × Int) (w : World) (hn : n ≤ 1000) (ham : a + m ≤ n) (hb0 : base ≤ w.heap.size) (h : PMine w base 74 g n c f) :
    Calls Tryz.prog 127 #[.slice (some ⟨g, a * 2, none⟩) m cc, .agg #[.int .i64 p.1, .int .i64 p.2]] w (Filled w base g n c (fillF f a m p)) := by
  obtain ⟨p0, p1⟩ := p
  have hg := h.2.2.1
  have hbg := h.2.1
  have HM := Lib.hid (h.alloc (.cells #[.int .i64 p0, .int .i64 p1] 74))
  clear h
  go_enter Tryz.func127, Tryz.ntmps127
  go_wp2
  go_loopw [7] (fun i wr => ∃ k : Nat, k ≤ m ∧ i = .int .i64 k ∧ PMine wr base 74 g n c (fillF f a k (p0, p1)) ∧ Below base w wr ∧ w.heap.size < wr.heap.size ∧
    wr.cell? ⟨w.heap.size, 0, none⟩ = some (.int .i64 p0) ∧ wr.cell? ⟨w.heap.size, 1, none⟩ = some (.int .i64 p1)) (fun i _ => m - (intOf i).toNat)
  case atStart => exact ⟨0, Nat.zero_le _, rfl, by rw [fillF_zero]; exact HM.out, (Below.refl _ _).alloc hb0 _, by simp, by simp [go_sem], by simp [go_sem]⟩
  case round =>
    obtain ⟨k, hk, rfl, hm, hb, hsz, c0, c1⟩ := hrel
    have HB := Lib.hid hb
    have HK := Lib.hid hm
    have hz := hb.size
    by_cases hlt : k < m
    · have f0 := hm.free (a * 2 + k * 2)
      have f1 := hm.free (a * 2 + k * 2 + 1)
      have hgr := hm.2.2.1
      obtain ⟨d0, d1⟩ := hm.cells (a + k) (by omega)
      rw [show (a + k) * 2 = a * 2 + k * 2 by omega] at d0 d1
      clear hm hb
      go_wp2
      go_roundw
      case rel =>
        refine ⟨k + 1, by omega, by go_num, ?_, ?_, ?_, ?_, ?_⟩
        · have := HK.out.stored (a + k) (p0, p1)
          rw [show (a + k) * 2 = a * 2 + k * 2 by omega, fillF_succ] at this
          exact this
        · exact (HB.out.setCell (by simpa using hbg) _).setCell (by simpa using hbg) _
        · simpa using hsz
        · simp [go_sem, c0]
        · simp [go_sem, c1]
      case measure => simp [intOf]; omega
    · obtain rfl : k = m := by omega
      clear hm hb
      go_wp2
      go_end0
      exact ⟨rfl, HK.out, HB.out⟩
end Go.Proofs.YtdmclfolooiccaaGreatDoor.Cl
end
section
namespace Go.Proofs.YtdmclfolooiccaaGreatDoor
open Go.RowKit
set_option maxRecDepth 100000

theorem iclone_any (B : Nat) (A : Option Addr) (n c : Nat) (xs : List Int) (w : World) (hn : n ≤ 2000000) (hB : B ≤ w.heap.size) (hr : Row w B A n xs) :
    Calls Tryz.prog 50 #[.slice A n c] w (Ls.AllOut w xs) := by
  have HR := Lib.hid hr
  have q22 : ∀ (w : World) (a : Option Addr) (n c n' c' : Nat), (binOp .eql 22 (.slice a n c) (.slice none n' c')).run Tryz.prog w = .ok (.bool a.isNone) w := fun w a n c n' c' => Lib.run_eql_slice_nil w _ _ a n c n' c' Tryz.underlying22
  have hl := hr.1
  have hA : A = none → n = 0 ∧ xs = [] := fun e => by
    by_cases h0 : n = 0
    · exact ⟨h0, List.eq_nil_of_length_eq_zero (by omega)⟩
    · obtain ⟨b, off, e', _⟩ := hr.2 (by omega)
      rw [e] at e'
      cases e'
  clear hr hl
  cases A with
  | none =>
    obtain ⟨rfl, rfl⟩ := hA rfl
    clear hA
    go_enter Tryz.func50, Tryz.ntmps50
    go_wp2
    go_ret
    exact ⟨⟨none, 0, 0⟩, rfl, World.ownsRow_nil _ _ _ _, Below.refl _ _⟩
  | some x =>
    clear hA
    go_enter Tryz.func50, Tryz.ntmps50
    go_wp2_with (at_builtin; refine Ls.list_cat rfl (.tmp 5) (.tmp 6) rfl rfl rfl (xs := []) (World.ownsRow_made w #[] 0 (Nat.le_refl _) (Nat.zero_le _) rfl) (HR.out.below ((Below.refl B w).alloc hB _)) (by simp) (by omega) ?_)
    intro p' cp' w1 hcat
    have ho := hcat.own
    have hg := hcat.grown
    have HO := Lib.hid ho
    have HG := Lib.hid hg
    clear hcat ho hg
    go_wp2
    go_ret
    exact ⟨⟨p', n, cp'⟩, rfl, HO.out, ((Below.refl _ w).alloc (Nat.le_refl _) _).grown HG.out (by simp) (by intro k hk; simp [Value.ownBlock] at hk; omega)⟩

def bcells (f : Nat → Bool) (n : Nat) : List Value := (List.range n).map fun i => .bool (f i)
theorem bcells_at (f : Nat → Bool) (n i : Nat) (h : i < n) : (bcells f n)[i]? = some (.bool (f i)) := by simp [bcells, h]
theorem info_boolC : (Tryz.prog.info? 4).map (fun i => (i.zero, i.size, i.bytes)) = some (some (.bool false), 1, 1) := by kernel_rfl
/-- A row of truth values in a block of the call's own. -/
def BMade (w : World) (n : Nat) (f : Nat → Bool) (e : Ending) (w' : World) : Prop :=
  ∃ g c, e = .returned (.slice (some ⟨g, 0, none⟩) n c) ∧ (∀ i, i < n → w'.cell? ⟨g, i, none⟩ = some (.bool (f i))) ∧ (∀ i, w'.frozen? ⟨g, i, none⟩ = false) ∧ w.heap.size ≤ g ∧ g < w'.heap.size ∧ Below w.heap.size w w'
theorem bmade_of {w w1 : World} {v : Value} {n : Nat} {f : Nat → Bool} (h : w1.ownsRow w.heap.size 4 1 v n (bcells f n)) (hn : 0 < n) :
    ∃ g c, v = .slice (some ⟨g, 0, none⟩) n c ∧ (∀ i, i < n → w1.cell? ⟨g, i, none⟩ = some (.bool (f i))) ∧ w.heap.size ≤ g ∧ g < w1.heap.size := by
  rcases h.2 with ⟨rfl, h0⟩ | ⟨g, c, cur, rfl, hb, hh, hnc, hcm, _⟩
  · omega
  · exact ⟨g, c, rfl, fun i hi => (h.cellAt i (by omega)).trans (bcells_at f n i hi), hb, (Array.getElem?_eq_some_iff.1 hh).1⟩
theorem bclone_ok (B : Nat) (A : Option Addr) (n c : Nat) (f : Nat → Bool) (w : World) (hn : 0 < n) (hbig : n ≤ 1000000) (hr : BRow w B A n f) :
    Calls Tryz.prog 52 #[.slice A n c] w (BMade w n f) := by
  obtain ⟨i0, hi, hz0, hz1, hz2⟩ := info_parts info_boolC
  obtain ⟨b, off, rfl, _, hc⟩ := hr hn
  have HC := Lib.hid hc
  have q22 : ∀ (w : World) (a : Option Addr) (n c n' c' : Nat), (binOp .eql 26 (.slice a n c) (.slice none n' c')).run Tryz.prog w = .ok (.bool a.isNone) w := fun w a n c n' c' => Lib.run_eql_slice_nil w _ _ a n c n' c' Tryz.underlying26
  have u22 : ∀ w, Sem.run Tryz.prog (underlying 26) w = .ok (TypeDesc.slice 4) w := run_underlying Tryz.underlying26
  clear hc hr
  go_enter Tryz.func52, Tryz.ntmps52
  go_wp2_with (at_builtin; refine wpList_append_own _ rfl _ _ 26 rfl w.heap.size 4 i0 (.bool false) 1 1 Tryz.underlying26 hi hz0 hz1 hz2 rfl (by decide) _ _ _ rfl (World.ownsRow_made w #[] 0 (Nat.le_refl _) (Nat.zero_le _) rfl) ⟨b, off, none⟩ n c (bcells f n) rfl ?qc1 ?qc2 ?qc3 ?qc4 ?qc5 ?qc6 ?_)
  case qc1 => simp [bcells]
  case qc2 =>
    intro j u hj
    rw [Addr.add_lit]
    have hjn : j < n := by
      have := (List.getElem?_eq_some_iff.1 hj).1
      simpa [bcells] using this
    rw [bcells_at f n j hjn] at hj
    rw [← hj]
    exact Lib.cell?_alloc_some _ (HC.out j hjn)
  case qc3 =>
    intro u hu
    obtain ⟨x, _, rfl⟩ := List.mem_map.1 hu
    rfl
  case qc4 => unfold maxLen; omega
  case qc5 => omega
  case qc6 => simp
  intro v' w1 hown hgrow hnil
  have hown' : w1.ownsRow w.heap.size 4 1 v' n (bcells f n) := by simpa using hown
  obtain ⟨g, c', rfl, hm, hb, hl⟩ := bmade_of hown' hn
  have HM := Lib.hid hm
  have HFZ : Hid (∀ i, w1.frozen? ⟨g, i, none⟩ = false) := Lib.hid fun i => hown'.frozenAt i
  clear hown hown' hnil hm
  go_wp2
  go_ret
  exact ⟨g, c', rfl, HM.out, HFZ.out, hb, hl, ((Below.refl _ w).alloc (Nat.le_refl _) _).grown hgrow (by simp) (by intro k hk; simp [Value.ownBlock] at hk; omega)⟩
end Go.Proofs.YtdmclfolooiccaaGreatDoor
end
