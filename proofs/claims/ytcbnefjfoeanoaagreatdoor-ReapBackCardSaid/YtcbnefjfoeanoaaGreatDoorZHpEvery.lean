/-
  Package heap's every: what is asked of each cell, by whatever function value.
-/
import Derived.Test.YtcbnefjfoeanoaaGreatDoorHpZH
import Derived.StillTailTactics
namespace Go.Proofs.YtcbnefjfoeanoaaGreatDoor
open Go.RowKit
set_option maxRecDepth 100000
attribute [local go_sem] Oper.semAt_some

/-- The first word of the cell at a; the page that it begins on. -/
def wd (d : Hd_) (a : Int) : Int := d.ws.getD (a - 16).toNat 0
def pgAt (d : Hd_) (a : Int) : Int × Int := d.f (a / 16 - 1).toNat
/-- What is handed to the function: where the cell begins, its page, its head. -/
def cellV (a x : Int) (p : Int × Int) : Value := .agg #[.int .i64 a, .int .i64 p.1, .int .i64 p.2, .bool (decide (x % 2 = 1)), .bool (decide (x / 2 % 2 = 1)), .bool (decide (x / 4 % 2 = 1)), .int .i64 (nOf x), .int .i64 (x / 1024 % 4194304), .int .i64 (x / 4294967296)]
theorem HBox.same {W W' : World} {b : Nat} {s : Hs} (h : HBox W b s) (hs : W'.heap[b]? = W.heap[b]?) (hl : W.heap.size ≤ W'.heap.size) : HBox W' b s :=
  ⟨(World.cell?_of_block (a := ⟨b, 0, none⟩) hs).trans h.c0, (World.cell?_of_block (a := ⟨b, 1, none⟩) hs).trans h.c1, (World.cell?_of_block (a := ⟨b, 2, none⟩) hs).trans h.c2, (World.cell?_of_block (a := ⟨b, 3, none⟩) hs).trans h.c3, (World.cell?_of_block (a := ⟨b, 4, none⟩) hs).trans h.c4, (World.cell?_of_block (a := ⟨b, 5, none⟩) hs).trans h.c5, Nat.lt_of_lt_of_le h.lt hl⟩
theorem row_same {w w' : World} {B n : Nat} {a : Option Addr} {xs : List Int} (h : Row w B a n xs) (hs : 0 < n → ∀ x, a = some x → w'.heap[x.block]? = w.heap[x.block]?) : Row w' B a n xs :=
  ⟨h.1, fun hn => by
    obtain ⟨b, off, e, hlt, hc⟩ := h.2 hn
    exact ⟨b, off, e, hlt, fun i hi => (World.cell?_of_block (a := ⟨b, off + i, none⟩) (show w'.heap[b]? = w.heap[b]? from hs hn _ e)).trans (hc i hi)⟩⟩

/-- What the walk of every holds between the cells: its own blocks are M's. -/
structure Ev (w : World) (n₀ : Nat) (M₀ : Nat → Prop) (s : Hs) (la : Option Addr) (n : Nat) (xs : List Int) (M : Nat → Prop) (W : World) : Prop where
  box : HBox W w.heap.size s
  bel : Cl.Kept n₀ M₀ w W
  sup : ∀ k, M₀ k → M k
  row : Row W W.heap.size la n xs
  mb : M w.heap.size
  ml : 0 < n → ∀ x, la = some x → M x.block
  fit : ∀ k, M k → k < W.heap.size
theorem Ev.kept {w : World} {n₀ : Nat} {M₀ : Nat → Prop} {s : Hs} {la : Option Addr} {n : Nat} {xs : List Int} {M : Nat → Prop} {W W' : World} (h : Ev w n₀ M₀ s la n xs M W) (hk : Cl.Kept n₀ M W W') : Ev w n₀ M₀ s la n xs M W' :=
  ⟨h.box.same (hk.2 _ h.mb h.box.lt) hk.1.size, h.bel.trans (hk.less h.sup), h.sup, (row_same h.row fun h0 x hx => hk.2 _ (h.ml h0 x hx) (h.fit _ (h.ml h0 x hx))).more hk.1.size, h.mb, h.ml, fun k hM => Nat.lt_of_lt_of_le (h.fit k hM) hk.1.size⟩
/-- .. with M's blocks and those that the walk has laid since. -/
def more (M : Nat → Prop) (lo hi : Nat) : Nat → Prop := fun k => M k ∨ (lo ≤ k ∧ k < hi)
theorem Ev.next {w : World} {n₀ : Nat} {M₀ : Nat → Prop} {s : Hs} {la : Option Addr} {n : Nat} {xs : List Int} {M : Nat → Prop} {W W' : World} (h : Ev w n₀ M₀ s la n xs M W) (h0 : n₀ ≤ w.heap.size) (hb : Below W.heap.size W W') : Ev w n₀ M₀ s la n xs (more M W.heap.size W'.heap.size) W' := by
  have hs := h.bel.1.size
  have h1 := h.kept (W' := W') ⟨hb.mono (by omega), fun k _ hk => hb.block k hk⟩
  exact ⟨h1.box, h1.bel, fun k hk => .inl (h1.sup k hk), h1.row, .inl h1.mb, fun hl x hx => .inl (h1.ml hl x hx), fun k hk => hk.elim (h1.fit k) (·.2)⟩
theorem bides_more {n₀ : Nat} {J : (Nat → Prop) → List Int → World → Prop} (hJ : Cl.Bides n₀ J) {M : Nat → Prop} {pre : List Int} {W W' : World} (h : J M pre W) (hb : Below W.heap.size W W') (hn : n₀ ≤ W.heap.size) : J (more M W.heap.size W'.heap.size) pre W' :=
  hJ.more h hb hn (fun _ hk => hk)

def Asked (n₀ : Nat) (M₀ : Nat → Prop) (w : World) (J : (Nat → Prop) → List Int → World → Prop) (xs : List Int) (R : Bool) (e : Ending) (w' : World) : Prop :=
  e = .returned (.bool R) ∧ Cl.Kept n₀ M₀ w w' ∧ (R = true → ∃ M, J M xs w')
/-- Of a cell: is its first word a head's, and does what is asked hold of it? -/
def holdsAt (d : Hd_) (p : Int → Bool) (a : Int) : Bool := Hd.isWord (wd d a) && p a
def Asks (gf : Nat) (lb : Array Value) (n₀ : Nat) (d : Hd_) (p : Int → Bool) (xs : List Int) (J : (Nat → Prop) → List Int → World → Prop) : Prop :=
  ∀ M pre a W, pre ++ [a] <+: xs → Hd.isWord (wd d a) = true → J M pre W → Cl.Sz W → (∀ k, M k → k < W.heap.size) →
    Calls Tryz.prog gf (#[cellV a (wd d a) (pgAt d a)] ++ lb) W fun e W' => e = .returned (.bool (p a)) ∧ Cl.Kept n₀ M W W' ∧ (p a = true → J M (pre ++ [a]) W')
theorem all_snoc {xs : List Int} {q : Nat} {g : Int → Bool} (hq : q < xs.length) (hg : g (xs.getD q 0) = false) : xs.all g = false := by
  cases e : xs.all g
  · rfl
  · have := List.all_eq_true.1 e _ (getD_mem hq)
    rw [hg] at this
    cases this
theorem all_every {xs : List Int} {g : Int → Bool} (h : ∀ j, j < xs.length → g (xs.getD j 0) = true) : xs.all g = true := List.all_eq_true.2 fun x hx => by
  obtain ⟨q, hq, rfl⟩ := List.getElem_of_mem hx
  have := h q hq
  rwa [show xs.getD q 0 = xs[q] by simp [List.getD, hq]] at this
theorem prefix_next {xs : List Int} {q : Nat} (hq : q < xs.length) : xs.take q ++ [xs.getD q 0] = xs.take (q + 1) := by
  rw [List.take_succ_eq_append_getElem hq]
  simp [List.getD, hq]

section
variable (s : Hs) (d : Hd_) (w : World) (n₀ : Nat) (M₀ : Nat → Prop) (gf : Nat) (lb : Array Value) (p : Int → Bool) (J : (Nat → Prop) → List Int → World → Prop)
set_option maxHeartbeats 2000000 in
theorem every_core (xs : List Int) (R : Bool) (hxe : Cl.allS d.f s.p.n = xs) (hR : R = xs.all (holdsAt d p)) (hp : Hp w n₀ s d) (h0 : n₀ ≤ w.heap.size) (hn0 : 0 < n₀) (hz : Cl.Sz w) (hf : firstB s d = true) (eg : ∀ args w, (callFunc gf args).run Tryz.prog w = .ok (.enter gf args) w) (hJ : Cl.Bides n₀ J) (j0 : J M₀ [] w) (hm0 : ∀ k, M₀ k → k < w.heap.size)
    (hask : Asks gf lb n₀ d p xs J) :
    Calls Tryz.prog 54 #[(.agg #[.slice s.w.a s.w.n s.w.c, .slice s.p.a s.p.n s.p.c, .slice (s.u 0).a (s.u 0).n (s.u 0).c, .slice (s.u 1).a (s.u 1).n (s.u 1).c, .slice (s.u 2).a (s.u 2).n (s.u 2).c, .slice s.c.a s.c.n s.c.c]), .func (.func gf) #[] lb] w (Asked n₀ M₀ w J xs R) := by
  have hall := Cl.all_new n₀ s.p.a s.p.n s.p.c d.f
  have hxs : (Cl.allS d.f s.p.n).length ≤ 100000 := by
    have := Cl.allS_short d.f s.p.n (Cl.allS d.f s.p.n).length
    rw [List.take_length] at this
    omega
  have hin := fun a (h : a ∈ Cl.allS d.f s.p.n) => allS_in h
  rw [hxe] at hall hxs hin
  have HIN := Lib.hid hin
  have HALL := Lib.hid hall
  have HR := Lib.hid hR
  clear hall hin hR hxe
  have hf' := hf
  unfold firstB at hf'
  simp only [Bool.and_eq_true, decide_eq_true_eq] at hf'
  obtain ⟨hwm, hpm, hw, -⟩ := hf'
  have hpn : s.p.n ≤ 64 := ((Cl.mayB_iff _ _).1 hpm).2.1
  have hpn0 : 0 < s.p.n := by have := ((Cl.mayB_iff _ _).1 hpm).1; omega
  obtain ⟨bp, op, ep, hbp, -⟩ := hp.pages hpn0
  rcases s with ⟨sw, ⟨ap, np, cp⟩, su, sc⟩
  obtain rfl : ap = some ⟨bp, op, none⟩ := ep
  dsimp only at hwm hw hpn hpn0 HIN HALL ⊢
  have HP := Lib.hid hp
  have HZ := Lib.hid hz
  have HW := Lib.hid hw
  have HWM := Lib.hid hwm
  have HJ := Lib.hid hJ
  have HJ0 := Lib.hid j0
  have HK := Lib.hid hask
  have HM0 := Lib.hid hm0
  clear hp hz hw hf hJ j0 hask hpm hwm hm0
  go_enter Tryz.func54, Tryz.ntmps54
  go_wp2_with fail
  have b0 := (Below.refl w.heap.size w).alloc (Nat.le_refl _) (.cells #[.slice sw.a sw.n sw.c, .slice (some ⟨bp, op, none⟩) np cp, .slice (su 0).a (su 0).n (su 0).c, .slice (su 1).a (su 1).n (su 1).c, .slice (su 2).a (su 2).n (su 2).c, .slice sc.a sc.n sc.c] 28)

  refine (HALL.out _ (by omega) (HZ.out.alloc _) (HP.out.pages.below (b0.mono h0)) (by simp; omega)).mono ?_
  rintro r w2 hl
  obtain ⟨la, lc, rfl, hrow, _, _, hb2, hlies⟩ := hl
  have hbw := b0.trans (hb2.mono (by simp))
  have E2 : Hid (Ev w n₀ M₀ ⟨sw, ⟨some ⟨bp, op, none⟩, np, cp⟩, su, sc⟩ la xs.length xs (more M₀ w.heap.size w2.heap.size) w2) := Lib.hid
    ⟨(HBox.new w ⟨sw, ⟨some ⟨bp, op, none⟩, np, cp⟩, su, sc⟩ 28).next hb2, ⟨hbw.mono h0, fun k _ hk => hbw.block k hk⟩, fun k hk => .inl hk, hrow, .inr ⟨Nat.le_refl _, by have := hb2.size; simp at this; omega⟩, fun hl0 x hx => .inr ⟨by have := hlies x hx; simp at this; omega, by
      obtain ⟨b, off, e, hlt, _⟩ := hrow.2 hl0
      rw [hx] at e
      cases e
      exact hlt⟩, fun k hk => hk.elim (fun hf => Nat.lt_of_lt_of_le (HM0.out k hf) hbw.size) (·.2)⟩
  have J2 := Lib.hid (bides_more HJ.out HJ0.out hbw h0)
  obtain ⟨n, hn⟩ : ∃ n, xs.length = n := ⟨_, rfl⟩
  have HN := Lib.hid hn
  rw [hn] at E2 hxs ⊢
  clear hrow hb2 hlies hbw b0 hn
  go_wp2
  go_loopw [17] (fun i wr => ∃ q : Nat, q ≤ n ∧ i = .int .i64 q ∧ Hid (∀ j, j < q → holdsAt d p (xs.getD j 0) = true) ∧ Hid (∃ M, Ev w n₀ M₀ ⟨sw, ⟨some ⟨bp, op, none⟩, np, cp⟩, su, sc⟩ la n xs M wr ∧ J M (xs.take q) wr)) (fun i _ => n - (intOf i).toNat)
  case atStart => exact ⟨0, Nat.zero_le _, rfl, Lib.hid (fun j h => absurd h (by omega)), Lib.hid ⟨_, E2.out, J2.out⟩⟩
  case round =>
    obtain ⟨q, hq, rfl, HG, HM⟩ := hrel
    by_cases hlt : q < n
    · obtain ⟨M, hE, hj⟩ := HM.out
      have hsz := hE.bel.1.size
      obtain ⟨b, off, rfl, hbl, hcell⟩ := hE.row.2 (by omega)
      have hq1 := hcell q hlt
      obtain ⟨y, hy⟩ : ∃ y, y = xs.getD q 0 := ⟨_, rfl⟩
      rw [← hy] at hq1
      have hmem : y ∈ xs := by
        have : xs[q]? = some y := by rw [hy]; simp [List.getD, List.getElem?_eq_getElem (show q < xs.length by have := HN.out; omega)]
        exact List.mem_of_getElem? this
      have hyin := HIN.out y hmem
      obtain ⟨x, hx⟩ : ∃ x, x = wd d y := ⟨_, rfl⟩
      obtain ⟨pg, hpg⟩ : ∃ pg, pg = pgAt d y := ⟨_, rfl⟩
      obtain ⟨k, hk⟩ : ∃ k : Nat, (y - 16) / 16 = k := ⟨((y - 16) / 16).toNat, by omega⟩
      have hkp : k < np := by have := HW.out; omega
      have HPAGE := Lib.hid (fun (W : World) => by
        have := Ar.page_ok sw.a sw.n sw.c y W HWM.out hyin.1 (by have := HW.out; omega)
        rw [hk] at this
        exact this)
      have HGET := Lib.hid (fun (W : World) (hW : Row W n₀ sw.a sw.n d.ws) => by
        have := Ar.get_ok n₀ sw.a sw.n sw.c d.ws y W HWM.out hyin.1 (by have := HW.out; omega) hW
        rw [show d.ws.getD (y - 16).toNat 0 = x from hx.symm] at this
        exact this)
      have hws := Lib.hid ((HP.out.below hE.bel.1).words)
      have hps := Lib.hid ((HP.out.below hE.bel.1).pages)
      have HX := Lib.hid hx
      have HPG := Lib.hid hpg
      have HY := Lib.hid hy
      have HKK := Lib.hid hk
      have HE := Lib.hid hE
      have HJJ := Lib.hid hj
      have i0 : (0 : Int) ≤ q := by omega
      have i1 : (q : Int) < n := by omega
      have q0 := hE.box.c0
      have q1 := hE.box.c1
      have ql := hE.box.lt
      clear hcell hmem hE hj hx hpg hy hk hyin
      go_wp2_with fail
      refine (HPAGE.out _).mono ?_
      rintro e w3 ⟨rfl, rfl⟩
      go_wp2_with fail
      refine (HGET.out _ hws.out).mono ?_
      rintro e w3 ⟨rfl, rfl⟩
      go_wp2_with fail
      refine (unpack_any x _).mono ?_
      cases hw : Hd.isWord x
      · rw [headOf_no hw]
        rintro e w3 ⟨rfl, hb3⟩
        have hR0 : R = false := by rw [HR.out]; exact all_snoc (q := q) (by have := HN.out; omega) (by rw [holdsAt, ← HY.out, ← HX.out, hw]; rfl)
        have HB := Lib.hid (HE.out.bel.trans ⟨hb3.mono (by omega), fun k _ hk => hb3.block k hk⟩)
        have hz3 := hb3.size
        subst hR0
        clear hb3 q0 q1 ql hw hq1
        go_wp2
        go_quiet (fail)
        go_wp2
        go_ret
        exact ⟨rfl, ⟨below_drawn' (HB.out.1.alloc (by omega) _) _, fun k hM hk => (Below.heap_alloc _ _ _ (Nat.lt_of_lt_of_le hk (by omega))).trans (HB.out.2 k hM hk)⟩, fun h => by cases h⟩
      · rw [headOf_yes hw]
        rintro e w3 ⟨rfl, hb3⟩
        have HWD := Lib.hid hw
        obtain ⟨w4, hw4⟩ : ∃ w4, w4 = w3.alloc (.cells #[.bool (decide (x % 2 = 1)), .bool (decide (x / 2 % 2 = 1)), .bool (decide (x / 4 % 2 = 1)), .int .i64 (nOf x), .int .i64 (x / 1024 % 4194304), .int .i64 (x / 4294967296)] 30) := ⟨_, rfl⟩
        have hb4 : Below wr.heap.size wr w4 := by rw [hw4]; exact hb3.alloc hb3.size _
        have x0 : w4.cell? ⟨w3.heap.size, 0, none⟩ = some (.bool (decide (x % 2 = 1))) := by rw [hw4]; simp [go_sem]
        have x1 : w4.cell? ⟨w3.heap.size, 1, none⟩ = some (.bool (decide (x / 2 % 2 = 1))) := by rw [hw4]; simp [go_sem]
        have x2 : w4.cell? ⟨w3.heap.size, 2, none⟩ = some (.bool (decide (x / 4 % 2 = 1))) := by rw [hw4]; simp [go_sem]
        have x3 : w4.cell? ⟨w3.heap.size, 3, none⟩ = some (.int .i64 (nOf x)) := by rw [hw4]; simp [go_sem]
        have x4 : w4.cell? ⟨w3.heap.size, 4, none⟩ = some (.int .i64 (x / 1024 % 4194304)) := by rw [hw4]; simp [go_sem]
        have x5 : w4.cell? ⟨w3.heap.size, 5, none⟩ = some (.int .i64 (x / 4294967296)) := by rw [hw4]; simp [go_sem]
        have xl : w3.heap.size < w4.heap.size := by rw [hw4]; simp
        have hE4 := HE.out.next h0 hb4
        have hJ4 := bides_more HJ.out HJJ.out hb4 (by omega)
        have HW4 := Lib.hid hw4
        obtain ⟨bp', op', ep, _, hcp⟩ := ((HP.out.below hE4.bel.1).pages) hpn0
        simp only [Option.some.injEq, Addr.mk.injEq, and_true] at ep
        obtain ⟨rfl, rfl⟩ := ep
        obtain ⟨p0, p1⟩ := hcp k hkp
        rw [show d.f k = pg by rw [HPG.out, pgAt, show (y / 16 - 1).toNat = k by have := HKK.out; omega]] at p0 p1
        have hbp4 : bp < w4.heap.size := by have := hE4.bel.1.size; omega
        have c1 := hE4.box.c1
        dsimp only at c1
        have cl := hE4.box.lt
        have H4 := Lib.hid (And.intro hE4 hJ4)
        have k0 : (0 : Int) ≤ k := by omega
        have k1 : (k : Int) < np := by omega
        clear hcp hb3 hw hw4 hb4 hE4 hJ4 q0 q1 ql hq1
        go_wp2
        rw [← HW4.out]
        go_still_tail 12, (by kernel_rfl)
        change wpList _ _ _ _ _ w4.drew
        have hb5 : Below w4.heap.size w4 w4.drew := below_drawn' (Below.refl _ _) 1
        have hE5 := H4.out.1.kept (W' := w4.drew) ⟨hb5.mono (by have := H4.out.1.bel.1.size; omega), fun _ _ _ => rfl⟩
        have hJ5 := HJ.out _ (more M wr.heap.size w4.heap.size) _ _ w4.drew H4.out.2 (hb5.mono (by have := H4.out.1.bel.1.size; omega)) (fun _ _ _ => rfl) (fun _ hk => .inl hk)
        have HCALL := Lib.hid (HK.out _ _ y w4.drew (show xs.take q ++ [y] <+: xs by rw [HY.out, prefix_next (by have := HN.out; omega)]; exact List.take_prefix _ _) (by rw [← HX.out]; exact HWD.out) hJ5 (HZ.out.over hE5.bel.1 hn0) hE5.fit)
        rw [← HX.out, ← HPG.out] at HCALL
        have HE5 := Lib.hid hE5
        clear hb5 hE5 hJ5 x0 x1 x2 x3 x4 x5 xl p0 p1 hbp4 c1 cl
        generalize w4.drew = w5 at HCALL HE5 ⊢
        go_wp2_with fail
        refine HCALL.out.mono ?_
        rintro e w6 ⟨rfl, hk6, hj6⟩
        have HE6 := Lib.hid (HE5.out.kept hk6)
        have HJ6 := Lib.hid hj6
        clear hk6 hj6
        cases hpy : p y
        · have hR0 : R = false := by rw [HR.out]; exact all_snoc (q := q) (by have := HN.out; omega) (by rw [holdsAt, ← HY.out, hpy, Bool.and_false])
          subst hR0
          clear hpy
          go_wp2
          go_ret
          exact ⟨rfl, HE6.out.bel, fun h => by cases h⟩
        · have HG2 : Hid (∀ j, j < q + 1 → holdsAt d p (xs.getD j 0) = true) := Lib.hid (fun j hj => by
            by_cases e : j = q
            · rw [e, ← HY.out, holdsAt, ← HX.out, HWD.out, hpy]; rfl
            · exact HG.out j (by omega))
          have HM2 : Hid (∃ M, Ev w n₀ M₀ ⟨sw, ⟨some ⟨bp, op, none⟩, np, cp⟩, su, sc⟩ (some ⟨b, off, none⟩) n xs M w6 ∧ J M (xs.take (q + 1)) w6) := Lib.hid ⟨_, HE6.out, by
            have := HJ6.out hpy
            rwa [HY.out, prefix_next (by have := HN.out; omega)] at this⟩
          clear hpy
          go_wp2
          go_roundw
          case rel => exact ⟨q + 1, by omega, by go_num, HG2, HM2⟩
          case measure => simp [intOf]; omega
    · obtain rfl : q = n := by omega
      have hRt : R = true := by rw [HR.out]; exact all_every (fun j hj => HG.out j (by have := HN.out; omega))
      obtain ⟨M, hE, hj⟩ := HM.out
      rw [List.take_of_length_le (by have := HN.out; omega)] at hj
      have HE := Lib.hid hE
      have HJJ := Lib.hid hj
      subst hRt
      clear hE hj
      go_wp2
      go_ret
      exact ⟨rfl, HE.out.bel, fun _ => ⟨_, HJJ.out⟩⟩
theorem every_any (hp : Hp w n₀ s d) (h0 : n₀ ≤ w.heap.size) (hn0 : 0 < n₀) (hz : Cl.Sz w) (hf : firstB s d = true) (eg : ∀ args w, (callFunc gf args).run Tryz.prog w = .ok (.enter gf args) w) (hJ : Cl.Bides n₀ J) (j0 : J M₀ [] w) (hm0 : ∀ k, M₀ k → k < w.heap.size)
    (hask : Asks gf lb n₀ d p (Cl.allS d.f s.p.n) J) :
    Calls Tryz.prog 54 #[(.agg #[.slice s.w.a s.w.n s.w.c, .slice s.p.a s.p.n s.p.c, .slice (s.u 0).a (s.u 0).n (s.u 0).c, .slice (s.u 1).a (s.u 1).n (s.u 1).c, .slice (s.u 2).a (s.u 2).n (s.u 2).c, .slice s.c.a s.c.n s.c.c]), .func (.func gf) #[] lb] w (Asked n₀ M₀ w J (Cl.allS d.f s.p.n) ((Cl.allS d.f s.p.n).all (holdsAt d p))) :=
  every_core s d w n₀ M₀ gf lb p J _ _ rfl rfl hp h0 hn0 hz hf eg hJ j0 hm0 hask
end
end Go.Proofs.YtcbnefjfoeanoaaGreatDoor
