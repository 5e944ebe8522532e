/-
  Merged texts: ShP, RtRow, RtP, ShKs, HaP, RtClone, RtGet, AlOwn.
-/
import Derived.Test.YtgmkomnoiffapaaGreatDoorHpBE
import Derived.Test.YtgmkomnoiffapaaGreatDoorHpBA
import Derived.Deep.Upon
import Derived.Lib.SliceRun
section
namespace Go.Proofs.YtgmkomnoiffapaaGreatDoor.Sh
open Go.Proofs.YtgmkomnoiffapaaGreatDoor
set_option maxRecDepth 100000

/-- The colour of a head's word. -/
def colW (x : Int) (mj : Bool) (ep : Int) : Int := if x / 2 % 2 = 1 ∧ mj = false then 0 else if x / 4294967296 < ep then 1 else if x / 4 % 2 = 1 then 3 else 2
/-- Does an object begin at a that has the colour q? -/
def isC (s : Hs) (d : Hd_) (mj : Bool) (ep a q : Int) : Bool := decide (0 ≤ ep ∧ ep ≤ 1048576) && (decide (headE s d a = 0) && decide (colW (wd d a) mj ep = q))
/-- A heap with another head's done and mark. -/
def dHd (d : Hd_) (a : Int) (e : Bool) (m : Int) : Hd_ := dSet d a (decide (wd d a / 2 % 2 = 1)) e (nOf (wd d a)) (wd d a / 1024 % 4194304) m
def shD (s : Hs) (d : Hd_) (mj : Bool) (ep a : Int) : Hd_ := if isC s d mj ep a 1 = true then dHd d a false ep else d
/-- The work list, and whether it has no more room. -/
def shX (c : Bool) (xs : List Int) (a : Int) : List Int := if c = true ∧ xs.length < 4 then xs ++ [a] else xs
def shO (c : Bool) (xs : List Int) (ov : Bool) : Bool := ov || (c && decide (4 ≤ xs.length))
section
variable {s t : Hs} {d d' : Hd_} {mj : Bool} {ep a q : Int}
theorem isC_iff : isC s d mj ep a q = true ↔ (0 ≤ ep ∧ ep ≤ 1048576) ∧ headE s d a = 0 ∧ colW (wd d a) mj ep = q := by
  unfold isC
  simp only [Bool.and_eq_true, decide_eq_true_eq]
/-- An object that is there. -/
structure Obj_ (s : Hs) (d : Hd_) (a : Int) : Prop where
  may : mayB0 s d = true
  used : a ∈ usedL s d
  word : Hd.isWord (wd d a) = true
  odd : wd d a % 2 = 1
  val : headV s d a = .agg #[.bool true, .bool (decide (wd d a / 2 % 2 = 1)), .bool (decide (wd d a / 4 % 2 = 1)), .int .i64 (nOf (wd d a)), .int .i64 (wd d a / 1024 % 4194304), .int .i64 (wd d a / 4294967296)]
  lo : 16 ≤ a
theorem obj_of (h : headE s d a = 0) : Obj_ s d a := by
  have hm : mayB0 s d = true := by
    unfold headE at h
    cases hm : mayB0 s d
    · rw [if_pos hm] at h; omega
    · rfl
  rcases used_head hm a with ⟨h1, _, _, _, _⟩ | ⟨_, h2⟩
  · have hb : ¬ Cl.bg d.f s.p.n a = 0 ∧ wd d a % 2 = 1 := by
      unfold usedL usedF at h1
      rw [if_pos hm, List.mem_filter, mem_allS, decide_eq_true_iff] at h1
      exact h1
    have hc := List.all_eq_true.1 (mayH_all hm).2.1 a (mem_allS.2 hb.1)
    have hw := (word_used hc).1
    refine ⟨hm, h1, hw, hb.2, ?_, (used_in h1).1⟩
    unfold headV
    rw [if_pos h, headOf_yes hw, show decide (wd d a % 2 = 1) = true from decide_eq_true hb.2]
  · omega
theorem Obj_.parts (h : Obj_ s d a) : 0 ≤ nOf (wd d a) ∧ nOf (wd d a) ≤ 63 ∧ 0 ≤ wd d a / 1024 % 4194304 ∧ wd d a / 1024 % 4194304 ≤ 1048576 ∧ 0 ≤ wd d a / 4294967296 ∧ wd d a / 4294967296 ≤ 1048576 := Hd.isWord_odd h.word h.odd
theorem Obj_.fits (h : Obj_ s d a) (e : Bool) {m : Int} (h0 : 0 ≤ m) (h1 : m ≤ 1048576) : Hd.mayB true (decide (wd d a / 2 % 2 = 1)) e (nOf (wd d a)) (wd d a / 1024 % 4194304) m = true := by
  obtain ⟨p1, p2, p3, p4, _, _⟩ := h.parts
  exact (Hd.may_used_iff _ _ _ _ _).2 ⟨p1, p2, p3, p4, h0, h1⟩
/-- What a heap behind some steps has of the one ahead. -/
structure Kin (s t : Hs) (d d' : Hd_) : Prop where
  len : Lens s t
  wlen : d'.ws.length = d.ws.length
  may : mayB0 t d' = mayB0 s d
  used : usedL t d' = usedL s d
  fine : Fine s d → Fine t d'
  F : d'.F = d.F
theorem Kin.refl (s : Hs) (d : Hd_) : Kin s s d d := ⟨⟨rfl, rfl, fun _ _ => rfl, rfl⟩, rfl, rfl, rfl, id, rfl⟩
theorem lens_trans {s t u : Hs} (h : Lens s t) (g : Lens t u) : Lens s u := ⟨g.1.trans h.1, g.2.1.trans h.2.1, fun j hj => (g.2.2.1 j hj).trans (h.2.2.1 j hj), g.2.2.2.trans h.2.2.2⟩
theorem Kin.trans {u : Hs} {d2 : Hd_} (h : Kin s t d d') (g : Kin t u d' d2) : Kin s u d d2 := ⟨lens_trans h.len g.len, g.wlen.trans h.wlen, g.may.trans h.may, g.used.trans h.used, fun f => g.fine (h.fine f), g.F.trans h.F⟩
theorem kin_same (hl : Lens s t) : Kin s t d d := by
  have hm : ∀ m F, mayH t d m F = mayH s d m F := fun m F => by
    unfold mayH firstB
    rw [hl.1, hl.2.1, hl.2.2.2]
  have h0 : mayB0 t d = mayB0 s d := hm 0 noCaches
  refine ⟨hl, rfl, h0, ?_, fun f => ⟨by rw [hl.1]; exact f.wn, by rw [hl.2.1]; exact f.pn, by rw [hl.2.2.2]; exact f.cn, f.hv, f.len⟩, rfl⟩
  unfold usedL
  rw [h0, hl.2.1]
theorem same_col (hl : Lens s t) (y q : Int) : isC t d mj ep y q = isC s d mj ep y q := by
  have h0 := (kin_same (d := d) hl).may
  unfold isC headE
  rw [h0, hl.2.1]
theorem shX_len (c : Bool) (xs : List Int) (a : Int) : (shX c xs a).length ≤ xs.length + 1 ∧ xs.length ≤ (shX c xs a).length := by
  unfold shX
  split
  · simp
  · omega
end
end Go.Proofs.YtgmkomnoiffapaaGreatDoor.Sh
end
section
namespace Go.Proofs.YtgmkomnoiffapaaGreatDoor.Rt
open Go.Proofs.YtgmkomnoiffapaaGreatDoor
open Go.RowKit
set_option maxRecDepth 100000

/-- A block of its own that holds these cells, and may be stored to. -/
structure Box (W : World) (b : Nat) (vs : List Value) : Prop where
  cel : ∀ j v, vs[j]? = some v → W.cell? ⟨b, j, none⟩ = some v
  free : ∀ j, W.frozen? ⟨b, j, none⟩ = false
  lt : b < W.heap.size
/-- A whole value is stored, from a cell on. -/
def puts (b : Nat) : Nat → List Value → World → World
  | _, [], w => w
  | j, v :: vs, w => puts b (j + 1) vs (w.setCell ⟨b, j, none⟩ v)
section
variable {W W' : World} {b k : Nat} {vs us : List Value}
theorem Box.new (w : World) (vs : List Value) (t : TypeId) : Box (w.alloc (.cells vs.toArray t)) w.heap.size vs :=
  ⟨fun j v h => by rw [World.cell?_alloc_new]; simpa using h, fun j => by simp, by simp⟩
theorem Box.same (h : Box W b vs) (hs : W'.heap[b]? = W.heap[b]?) (hl : W.heap.size ≤ W'.heap.size) : Box W' b vs :=
  ⟨fun j v e => (World.cell?_of_block (a := ⟨b, j, none⟩) hs).trans (h.cel j v e), fun j => (World.frozen?_of_block (a := ⟨b, j, none⟩) hs).trans (h.free j), Nat.lt_of_lt_of_le h.lt hl⟩
theorem Box.next (h : Box W b vs) (hb : Below W.heap.size W W') : Box W' b vs := h.same (hb.block b h.lt) hb.size
theorem Box.other (h : Box W b vs) {p : Addr} (hp : ¬ b = p.block) (x : Value) : Box (W.setCell p x) b vs := h.same (Below.heap_setCell _ _ _ _ hp) (by simp [World.setCell])
theorem Box.set (h : Box W b vs) (k : Nat) (x : Value) : Box (W.setCell ⟨b, k, none⟩ x) b (vs.set k x) := by
  refine ⟨fun j v e => ?_, fun j => by rw [World.frozen?_setCell]; exact h.free j, by simpa [World.setCell] using h.lt⟩
  by_cases hk : k = j
  · subst hk
    have hlt : k < vs.length := by
      have := (List.getElem?_eq_some_iff.1 e).1
      simpa using this
    have : v = x := by simpa [hlt] using e.symm
    subst this
    exact World.cell?_setCell_same' _ _ _ (by rw [h.cel k _ (List.getElem?_eq_getElem hlt)]; rfl)
  · rw [List.getElem?_set_ne hk] at e
    rw [World.cell?_setCell_other _ _ _ _ (by intro hh; simp only [Addr.mk.injEq, true_and, and_true] at hh; exact hk hh)]
    exact h.cel j v e
theorem puts_other (b : Nat) : ∀ (vs : List Value) (j : Nat) (w : World) {k : Nat}, ¬ k = b → (puts b j vs w).heap[k]? = w.heap[k]?
  | [], _, _, _, _ => rfl
  | _ :: vs, j, _, _, hk => (puts_other b vs (j + 1) _ hk).trans (Below.heap_setCell _ _ _ _ hk)
theorem puts_size (b : Nat) : ∀ (vs : List Value) (j : Nat) (w : World), (puts b j vs w).heap.size = w.heap.size
  | [], _, _ => rfl
  | _ :: vs, j, _ => (puts_size b vs (j + 1) _).trans (by simp [World.setCell])
theorem below_puts {B : Nat} {a : World} (b : Nat) (hb : B ≤ b) : ∀ (vs : List Value) (j : Nat) (w : World), Below B a w → Below B a (puts b j vs w)
  | [], _, _, h => h
  | v :: vs, j, _, h => below_puts b hb vs (j + 1) _ (h.setCell (p := ⟨b, j, none⟩) hb v)
/-- .. a list of cells, from one on, others. -/
def sets : Nat → List Value → List Value → List Value
  | _, [], us => us
  | j, v :: vs, us => sets (j + 1) vs (us.set j v)
theorem Box.puts : ∀ (vs : List Value) (j : Nat) {us : List Value} {w : World}, Box w b us → Box (puts b j vs w) b (sets j vs us)
  | [], _, _, _, h => h
  | v :: vs, j, _, _, h => Box.puts vs (j + 1) (h.set j v)
end

/-- An operation: its kind, and three numbers. -/
structure O4 where
  k : Int
  a : Int
  b : Int
  c : Int
/-- The slice holds the operations g 0 to g (n - 1), in a block below B. -/
def ORow (w : World) (B : Nat) (a : Option Addr) (n : Nat) (g : Nat → O4) : Prop :=
  0 < n → ∃ b off, a = some ⟨b, off, none⟩ ∧ b < B ∧ ∀ i, i < n → w.cell? ⟨b, off + i * 4, none⟩ = some (.int .i64 (g i).k) ∧ w.cell? ⟨b, off + i * 4 + 1, none⟩ = some (.int .i64 (g i).a) ∧ w.cell? ⟨b, off + i * 4 + 2, none⟩ = some (.int .i64 (g i).b) ∧ w.cell? ⟨b, off + i * 4 + 3, none⟩ = some (.int .i64 (g i).c)
section
variable {w w' : World} {B B' n : Nat} {a : Option Addr} {g : Nat → O4}
theorem ORow.below (h : ORow w B a n g) (hb : Below B w w') : ORow w' B a n g := fun hn => by
  obtain ⟨b, off, e, hlt, hc⟩ := h hn
  exact ⟨b, off, e, hlt, fun i hi => ⟨(hb.cell (p := ⟨b, off + i * 4, none⟩) hlt).trans (hc i hi).1, (hb.cell (p := ⟨b, off + i * 4 + 1, none⟩) hlt).trans (hc i hi).2.1, (hb.cell (p := ⟨b, off + i * 4 + 2, none⟩) hlt).trans (hc i hi).2.2.1, (hb.cell (p := ⟨b, off + i * 4 + 3, none⟩) hlt).trans (hc i hi).2.2.2⟩⟩
theorem ORow.same (h : ORow w B a n g) (hs : 0 < n → ∀ x, a = some x → w'.heap[x.block]? = w.heap[x.block]?) : ORow w' B a n g := fun hn => by
  obtain ⟨b, off, e, hlt, hc⟩ := h hn
  have hb := hs hn _ e
  exact ⟨b, off, e, hlt, fun i hi => ⟨(World.cell?_of_block (a := ⟨b, off + i * 4, none⟩) hb).trans (hc i hi).1, (World.cell?_of_block (a := ⟨b, off + i * 4 + 1, none⟩) hb).trans (hc i hi).2.1, (World.cell?_of_block (a := ⟨b, off + i * 4 + 2, none⟩) hb).trans (hc i hi).2.2.1, (World.cell?_of_block (a := ⟨b, off + i * 4 + 3, none⟩) hb).trans (hc i hi).2.2.2⟩⟩
theorem ORow.more (h : ORow w B a n g) (hB : B ≤ B') : ORow w B' a n g := fun hn => by
  obtain ⟨b, off, e, hb, hc⟩ := h hn
  exact ⟨b, off, e, by omega, hc⟩
theorem ORow.next (h : ORow w w.heap.size a n g) (hb : Below w.heap.size w w') : ORow w' w'.heap.size a n g := (h.below hb).more hb.size
theorem ORow.empty (w : World) (B : Nat) (a : Option Addr) (g : Nat → O4) : ORow w B a 0 g := fun h => absurd h (by omega)
/-- The operations' cells. -/
def o4c (x : O4) : Nat → Value
  | 0 => .int .i64 x.k
  | 1 => .int .i64 x.a
  | 2 => .int .i64 x.b
  | _ => .int .i64 x.c
def ocell (g : Nat → O4) (j : Nat) : Value := o4c (g (j / 4)) (j % 4)
def ocells (g : Nat → O4) (n : Nat) : List Value := (List.range (n * 4)).map (ocell g)
theorem ocells_length (g : Nat → O4) (n : Nat) : (ocells g n).length = n * 4 := by simp [ocells]
theorem ocells_get (g : Nat → O4) (n j : Nat) (h : j < n * 4) : (ocells g n)[j]? = some (ocell g j) := by simp [ocells, h]
theorem ocells_at (g : Nat → O4) (n i r : Nat) (h : i < n) (hr : r < 4) : (ocells g n)[i * 4 + r]? = some (o4c (g i) r) := by
  rw [ocells_get g n _ (by omega), ocell, show (i * 4 + r) / 4 = i by omega, show (i * 4 + r) % 4 = r by omega]
theorem ocells_one {u : Value} (h : u ∈ ocells g n) : ∃ z, u = .int .i64 z := by
  obtain ⟨j, _, rfl⟩ := List.mem_map.1 h
  unfold ocell o4c
  split <;> exact ⟨_, rfl⟩
theorem ORow.src {b off : Nat} (hc : ∀ i, i < n → w.cell? ⟨b, off + i * 4, none⟩ = some (.int .i64 (g i).k) ∧ w.cell? ⟨b, off + i * 4 + 1, none⟩ = some (.int .i64 (g i).a) ∧ w.cell? ⟨b, off + i * 4 + 2, none⟩ = some (.int .i64 (g i).b) ∧ w.cell? ⟨b, off + i * 4 + 3, none⟩ = some (.int .i64 (g i).c))
    (j : Nat) (u : Value) (hj : (ocells g n)[j]? = some u) : w.cell? ⟨b, off + j, none⟩ = some u := by
  have hlt : j < n * 4 := by
    have := (List.getElem?_eq_some_iff.1 hj).1
    simpa [ocells] using this
  obtain ⟨h0, h1, h2, h3⟩ := hc (j / 4) (by omega)
  have e := ocells_at g n (j / 4) (j % 4) (by omega) (by omega)
  rw [show j / 4 * 4 + j % 4 = j by omega, hj] at e
  cases e
  rcases (show j % 4 = 0 ∨ j % 4 = 1 ∨ j % 4 = 2 ∨ j % 4 = 3 by omega) with r | r | r | r <;> rw [r]
  · rw [show off + j = off + j / 4 * 4 by omega]; exact h0
  · rw [show off + j = off + j / 4 * 4 + 1 by omega]; exact h1
  · rw [show off + j = off + j / 4 * 4 + 2 by omega]; exact h2
  · rw [show off + j = off + j / 4 * 4 + 3 by omega]; exact h3
theorem orow_of {e : TypeId} {base : Nat} {v : Value} (h : w.ownsRow base e 4 v n (ocells g n)) : ∃ s : Ls.Sl, v = .slice s.a n s.c ∧ s.n = n ∧ ORow w w.heap.size s.a n g ∧ n ≤ s.c ∧ s.c ≤ maxLen ∧ (0 < n → ∀ x, s.a = some x → base ≤ x.block) := by
  rcases h.2 with ⟨rfl, h0⟩ | ⟨g', c, cur, rfl, hb, hh, hnc, hcm, _⟩
  · subst h0
    exact ⟨⟨none, 0, 0⟩, rfl, rfl, ORow.empty _ _ _ _, Nat.le_refl _, by show (0 : Nat) ≤ maxLen; unfold maxLen; omega, fun h => absurd h (by omega)⟩
  · refine ⟨⟨some ⟨g', 0, none⟩, n, c⟩, rfl, rfl, fun hn => ⟨g', 0, rfl, (Array.getElem?_eq_some_iff.1 hh).1, fun i hi => ?_⟩, hnc, hcm, fun _ x hx => by cases hx; exact hb⟩
    have t := fun r (hr : r < 4) => (h.cellAt (i * 4 + r) (by omega)).trans (ocells_at g n i r hi hr)
    simp only [Nat.zero_add]
    exact ⟨t 0 (by decide), t 1 (by decide), t 2 (by decide), t 3 (by decide)⟩
end

/-- A thread: registers, cache and operations by where they lie. -/
structure Ts where
  lv : Bool
  r : Nat → Int
  u : Nat → Ls.Sl
  ep : Int
  sg : Int
  rt : Int
  o : Ls.Sl
  pc : Int
  x : Int
  y : Int
/-- Its cells. -/
def tv (t : Ts) : List Value := [.bool t.lv, .int .i64 (t.r 0), .int .i64 (t.r 1), .int .i64 (t.r 2), .int .i64 (t.r 3), .slice (t.u 0).a (t.u 0).n (t.u 0).c, .slice (t.u 1).a (t.u 1).n (t.u 1).c, .slice (t.u 2).a (t.u 2).n (t.u 2).c, .int .i64 t.ep, .int .i64 t.sg, .int .i64 t.rt, .slice t.o.a t.o.n t.o.c, .int .i64 t.pc, .int .i64 t.x, .int .i64 t.y]
def noT : Ts := ⟨false, fun _ => 0, Ls.noSl, 0, 0, 0, ⟨none, 0, 0⟩, 0, 0, 0⟩
def tw (t : Ts) (u : Nat → Ls.Sl) (o : Ls.Sl) : Ts := ⟨t.lv, t.r, u, t.ep, t.sg, t.rt, o, t.pc, t.x, t.y⟩
/-- What a thread has in memory. -/
structure Th (w : World) (B : Nat) (t : Ts) (F : Nat → List Int) (g : Nat → O4) : Prop where
  c : Ls.L3 w B t.u F
  o : ORow w B t.o.a t.o.n g
  k : t.o.n ≤ t.o.c
section
variable {w w' : World} {B B' : Nat} {t : Ts} {F : Nat → List Int} {g : Nat → O4}
theorem Th.next (h : Th w w.heap.size t F g) (hb : Below w.heap.size w w') : Th w' w'.heap.size t F g := ⟨h.c.next hb, h.o.next hb, h.k⟩
theorem Th.below (h : Th w B t F g) (hb : Below B w w') : Th w' B t F g := ⟨h.c.below hb, h.o.below hb, h.k⟩
theorem Th.over (h : Th w w.heap.size t F g) (hb : Below w.heap.size w w') : Th w' w'.heap.size t F g := h.next hb
end
theorem tbox_reg {W : World} {b : Nat} {t : Ts} (h : Box W b (tv t)) {k : Nat} (hk : k < 4) : W.cell? ⟨b, 1 + k, none⟩ = some (.int .i64 (t.r k)) := by
  match k, hk with
  | 0, _ => exact h.cel 1 _ rfl
  | 1, _ => exact h.cel 2 _ rfl
  | 2, _ => exact h.cel 3 _ rfl
  | 3, _ => exact h.cel 4 _ rfl
end Go.Proofs.YtgmkomnoiffapaaGreatDoor.Rt
end
section
namespace Go.Proofs.YtgmkomnoiffapaaGreatDoor.Rt
open Go.Proofs.YtgmkomnoiffapaaGreatDoor
open Go.RowKit
set_option maxRecDepth 100000

def inReg (r : Int) : Bool := decide (0 ≤ r ∧ r ≤ 3)
def getV (t : Ts) (r : Int) : Int := if inReg r = true then t.r r.toNat else 0
def getE (r : Int) : Int := if inReg r = true then 0 else 1
/-- A thread that may be. -/
def mayT (t : Ts) : Bool := decide (0 ≤ t.sg ∧ t.sg ≤ 3 ∧ 0 ≤ t.rt ∧ t.rt ≤ 3 ∧ 0 ≤ t.pc ∧ t.pc ≤ 4 ∧ t.o.n ≤ 200 ∧ (t.pc = 0 ∨ 0 < t.o.n))
/-- Where it may hold an address, and what it holds. -/
def six (t : Ts) : List Int := [t.r 0, t.r 1, t.r 2, t.r 3, t.x, t.y]
def holdL (t : Ts) : List Int := (six t).filter fun a => decide (¬ a = 0)
def armB (ph ep : Int) (t : Ts) : Bool := decide (t.ep = ep ∧ 1 ≤ ph ∧ ph ≤ 5)
def blackB (ph ep : Int) (t : Ts) : Bool := decide (t.ep = ep ∧ t.sg = 3 ∧ ¬ ph = 0)
def fewT (t : Ts) : Bool := decide (t.o.n ≤ 220) && decide ((t.u 0).n ≤ 70 ∧ (t.u 1).n ≤ 70 ∧ (t.u 2).n ≤ 70)

theorem held_step (xs : List Int) (k : Nat) (hk : k < xs.length) : ((xs.take (k + 1)).filter fun a => decide (¬ a = 0)) = ((xs.take k).filter fun a => decide (¬ a = 0)) ++ (if xs.getD k 0 = 0 then [] else [xs.getD k 0]) := by
  have e : xs.take (k + 1) = xs.take k ++ [xs.getD k 0] := by
    rw [List.take_add_one]
    simp [List.getD, hk]
  rw [e, List.filter_append]
  congr 1
  by_cases h : xs.getD k 0 = 0
  · rw [if_pos h, List.filter_cons_of_neg (p := fun a => decide (¬ a = 0)) (by simpa using h)]
    rfl
  · rw [if_neg h, List.filter_cons_of_pos (p := fun a => decide (¬ a = 0)) (decide_eq_true h)]
    rfl
theorem inReg_yes {r : Int} (h : inReg r = true) : ∃ k : Nat, k < 4 ∧ r = (k : Int) := by
  have := of_decide_eq_true h
  exact ⟨r.toNat, by omega, by omega⟩
theorem inReg_nat {k : Nat} (h : k < 4) : inReg (k : Int) = true := decide_eq_true (by omega)
theorem getV_at (t : Ts) {k : Nat} (h : k < 4) : getV t (k : Int) = t.r k := by
  unfold getV
  rw [if_pos (inReg_nat h)]
  rfl
end Go.Proofs.YtgmkomnoiffapaaGreatDoor.Rt
end
section
namespace Go.Proofs.YtgmkomnoiffapaaGreatDoor.Sh
open Go.Proofs.YtgmkomnoiffapaaGreatDoor

/-- A collector. -/
structure Ks where
  ph : Int
  ep : Int
  mj : Bool
  wk : Ls.Sl
  ov : Bool
  pa : Int
  pf : Int
  ps : Int
  pc : Int
  me : Bool
end Go.Proofs.YtgmkomnoiffapaaGreatDoor.Sh
end
section
namespace Go.Proofs.YtgmkomnoiffapaaGreatDoor.Ha
open Go.Proofs.YtgmkomnoiffapaaGreatDoor Go.Proofs.YtgmkomnoiffapaaGreatDoor.Rt
set_option maxRecDepth 100000

def ansB (ph ep : Int) (t : Ts) : Bool := decide (ph = 0) || (decide (t.ep = ep) && (decide (ph = 1) || if ph = 2 then decide (2 ≤ t.sg) else decide (t.sg = 3)))
def askB (ph ep : Int) (t : Ts) : Bool := t.lv && (decide (t.pc = 0) && (mayT t && !ansB ph ep t))
/-- A thread with another epoch, stage, root. -/
def te (t : Ts) (ep sg rt : Int) : Ts := ⟨t.lv, t.r, t.u, ep, sg, rt, t.o, t.pc, t.x, t.y⟩
/-- What an answer changes. -/
structure A5 where
  d : Hd_
  xs : List Int
  ov : Bool
  t : Ts
def rootT (t : Ts) : Ts := if t.rt = 3 then te t t.ep 3 0 else te t t.ep t.sg (t.rt + 1)
/-- A register is shaded. -/
def rootS (s : Hs) (k : Sh.Ks) (P : A5) : A5 := ⟨Sh.shD s P.d k.mj k.ep (getV P.t P.t.rt), Sh.shX (Sh.isC s P.d k.mj k.ep (getV P.t P.t.rt) 1) P.xs (getV P.t P.t.rt), Sh.shO (Sh.isC s P.d k.mj k.ep (getV P.t P.t.rt) 1) P.xs P.ov, rootT P.t⟩
def anS (s : Hs) (k : Sh.Ks) (P : A5) : A5 :=
  if askB k.ph k.ep P.t = true then
    if P.t.ep = k.ep then
      if k.ph = 2 then ⟨P.d, P.xs, P.ov, te P.t P.t.ep 2 P.t.rt⟩ else rootS s k P
    else ⟨P.d, P.xs, P.ov, te P.t k.ep 1 0⟩
  else P
section
variable {s s' : Hs} {k : Sh.Ks} {P : A5} {t : Ts} {ph ep : Int}
theorem may_parts : mayT t = true ↔ (0 ≤ t.sg ∧ t.sg ≤ 3 ∧ 0 ≤ t.rt ∧ t.rt ≤ 3 ∧ 0 ≤ t.pc ∧ t.pc ≤ 4 ∧ t.o.n ≤ 200 ∧ (t.pc = 0 ∨ 0 < t.o.n)) := by
  unfold mayT
  rw [decide_eq_true_eq]
theorem ask_iff : askB ph ep t = true ↔ t.lv = true ∧ t.pc = 0 ∧ mayT t = true ∧ ansB ph ep t = false := by
  unfold askB
  simp only [Bool.and_eq_true, decide_eq_true_eq, Bool.not_eq_true']
theorem ans_iff : ansB ph ep t = true ↔ ph = 0 ∨ t.ep = ep ∧ (ph = 1 ∨ if ph = 2 then 2 ≤ t.sg else t.sg = 3) := by
  unfold ansB
  simp only [Bool.or_eq_true, Bool.and_eq_true, decide_eq_true_eq]
  split <;> simp only [decide_eq_true_eq]
theorem ans_not : ansB ph ep t = false ↔ ¬ ph = 0 ∧ (t.ep = ep → ¬ ph = 1 ∧ if ph = 2 then t.sg < 2 else ¬ t.sg = 3) := by
  rw [← Bool.not_eq_true, ans_iff]
  constructor
  · intro h
    refine ⟨fun e => h (.inl e), fun e => ⟨fun e1 => h (.inr ⟨e, .inl e1⟩), ?_⟩⟩
    split
    · next h2 => exact Int.not_le.1 fun h3 => h (.inr ⟨e, .inr (by rw [if_pos h2]; exact h3)⟩)
    · next h2 => exact fun h3 => h (.inr ⟨e, .inr (by rw [if_neg h2]; exact h3)⟩)
  · rintro ⟨h0, h1⟩ (h | ⟨e, h | h⟩)
    · exact h0 h
    · exact (h1 e).1 h
    · have := (h1 e).2
      split at h
      · next h2 => rw [if_pos h2] at this; omega
      · next h2 => rw [if_neg h2] at this; exact this h
/-- What stays. -/
structure Keep (t t' : Ts) : Prop where
  lv : t'.lv = t.lv
  r : t'.r = t.r
  u : t'.u = t.u
  o : t'.o = t.o
  pc : t'.pc = t.pc
  x : t'.x = t.x
  y : t'.y = t.y
theorem keep_te (t : Ts) (e sg rt : Int) : Keep t (te t e sg rt) := ⟨rfl, rfl, rfl, rfl, rfl, rfl, rfl⟩
theorem Keep.trans {a b c : Ts} (h : Keep a b) (q : Keep b c) : Keep a c := ⟨q.lv.trans h.lv, q.r.trans h.r, q.u.trans h.u, q.o.trans h.o, q.pc.trans h.pc, q.x.trans h.x, q.y.trans h.y⟩
theorem keep_root (t : Ts) : Keep t (rootT t) := by unfold rootT; split <;> exact keep_te _ _ _ _
/-- How many answers are left. -/
def left (ph ep : Int) (t : Ts) : Nat := if ansB ph ep t = true then 0 else if t.ep = ep then (if ph = 2 then 1 else 4 - t.rt.toNat) else if ph = 1 then 1 else if ph = 2 then 2 else 5
/-- Answers, one behind the other. -/
def it (s : Hs) (k : Sh.Ks) (P : A5) : Nat → A5
  | 0 => P
  | j + 1 => anS s k (it s k P j)
theorem lens_s (s : Hs) : Lens s s := ⟨rfl, rfl, fun _ _ => rfl, rfl⟩
/-- What one answer is. -/
theorem once (s : Hs) (h : askB k.ph k.ep P.t = true) :
    (¬ P.t.ep = k.ep → (anS s k P).t.ep = k.ep ∧ (anS s k P).t.sg = 1 ∧ (anS s k P).t.rt = 0) ∧
    (P.t.ep = k.ep → (anS s k P).t.ep = P.t.ep ∧ (¬ (anS s k P).t.sg = P.t.sg → P.t.sg < (anS s k P).t.sg ∧ (k.ph = 2 ∨ (anS s k P).t.rt = 0)) ∧ ((anS s k P).t.sg = P.t.sg → (anS s k P).t.rt = P.t.rt + 1 ∧ ¬ k.ph = 2)) ∧
    ((anS s k P).xs.length ≤ P.xs.length + 1) := by
  obtain ⟨_, _, hm, ha⟩ := ask_iff.1 h
  have q := may_parts.1 hm
  obtain ⟨h0, h1⟩ := ans_not.1 ha
  unfold anS
  rw [if_pos h]
  refine ⟨fun he => ?_, fun he => ?_, ?_⟩
  · rw [if_neg he]
    exact ⟨rfl, rfl, rfl⟩
  · obtain ⟨h2, h3⟩ := h1 he
    rw [if_pos he]
    by_cases hp : k.ph = 2
    · rw [if_pos hp] at h3
      rw [if_pos hp]
      exact ⟨rfl, fun _ => ⟨h3, .inl hp⟩, fun e => by have : (2 : Int) = P.t.sg := e; omega⟩
    · rw [if_neg hp] at h3
      rw [if_neg hp]
      show (rootT P.t).ep = _ ∧ (¬ (rootT P.t).sg = _ → _ < (rootT P.t).sg ∧ (_ ∨ (rootT P.t).rt = 0)) ∧ ((rootT P.t).sg = _ → (rootT P.t).rt = _ ∧ _)
      unfold rootT te
      split
      · exact ⟨rfl, fun _ => ⟨(by show P.t.sg < 3; omega), .inr rfl⟩, fun e => absurd e.symm h3⟩
      · exact ⟨rfl, fun e => absurd rfl e, fun _ => ⟨rfl, hp⟩⟩
  · split
    · split
      · exact Nat.le_succ _
      · exact (Sh.shX_len _ _ _).1
    · exact Nat.le_succ _
end
end Go.Proofs.YtgmkomnoiffapaaGreatDoor.Ha
end
section
namespace Go.Proofs.YtgmkomnoiffapaaGreatDoor.Rt
open Go.Proofs.YtgmkomnoiffapaaGreatDoor
open Go.RowKit
set_option maxRecDepth 100000

theorem oinfo_parts {T : TypeId} {z : Value} {s b : Nat} (h : (Tryz.prog.info? T).map (fun i => (i.zero, i.size, i.bytes)) = some (some z, s, b)) : ∃ i, Tryz.prog.info? T = some i ∧ i.zero = some z ∧ i.size = s ∧ i.bytes = b := by
  cases hi : Tryz.prog.info? T with
  | none => rw [hi] at h; cases h
  | some i =>
    rw [hi] at h
    simp only [Option.map_some, Option.some.injEq, Prod.mk.injEq] at h
    exact ⟨i, rfl, h.1, h.2.1, h.2.2⟩
theorem info_op : (Tryz.prog.info? 39).map (fun i => (i.zero, i.size, i.bytes)) = some (some (.agg #[.int .i64 0, .int .i64 0, .int .i64 0, .int .i64 0]), 4, 32) := by kernel_rfl
theorem olist_nothing {w : World} {ops : Array Oper} {rest : List Oper} {o : Oper} {a : Act} {Q : Exit → Act → World → Prop} {T E : TypeId} {i0 : TypeInfo} (hu : Tryz.prog.underlying T = some (.slice E)) (hi : Tryz.prog.info? E = some i0) (hgd : o.guard = none) (s x : Operand)
    (ho : o.op = .call { callee := .builtin .append, args := #[s, x], argTypes := #[T, T] }) {p : Option Addr} {m c : Nat} {v : Value}
    (hs : a.eval s = .slice p m c) (hx : a.eval x = v) (hle : m ≤ c) (hsrc : Src Tryz.prog i0.size T v 0 [] w)
    (hK : wpList Tryz.prog ops Q rest (a.put o.dst (.slice p m c)) w) : wpList Tryz.prog ops Q (o :: rest) a w :=
  wpList_plain hgd fun _ hK' => by
    have hrun := run_append_nothing (P := Tryz.prog) w T T o.type E i0 hu hi p m c hle v hsrc
    unfold Oper.wp execOp
    simp only [ho, resolve, invoke, builtin, Sem.run_bind, Sem.run_pure, Result.andThen_ok, List.map_toArray, List.map_cons, List.map_nil, hs, hx, hrun]
    exact hK' _ _ hK
/-- Operations that were copied. -/
def OClo (w : World) (n : Nat) (g : Nat → O4) (e : Ending) (w' : World) : Prop :=
  ∃ v : Ls.Sl, (v.n = n ∧ n ≤ v.c) ∧ e = .returned (.slice v.a n v.c) ∧ ORow w' w'.heap.size v.a n g ∧ (0 < n → ∀ x, v.a = some x → w.heap.size ≤ x.block) ∧ Below w.heap.size w w'
theorem oclone_none (A : Option Addr) (c : Nat) (g : Nat → O4) (w : World) : Calls Tryz.prog 98 #[.slice A 0 c] w (OClo w 0 g) := by
  obtain ⟨i0, hi, hz0, hz1, hz2⟩ := oinfo_parts info_op
  have q22 : ∀ (w : World) (a : Option Addr) (n c n' c' : Nat), (binOp .eql 32 (.slice a n c) (.slice none n' c')).run Tryz.prog w = .ok (.bool a.isNone) w := fun w a n c n' c' => Lib.run_eql_slice_nil w _ _ a n c n' c' Tryz.underlying32
  cases A with
  | none =>
    go_enter Tryz.func98, Tryz.ntmps98
    go_wp2
    go_ret
    exact ⟨⟨none, 0, 0⟩, ⟨rfl, Nat.le_refl _⟩, rfl, ORow.empty _ _ _ _, fun h => absurd h (Nat.lt_irrefl 0), Below.refl _ _⟩
  | some x =>
    have hsrc : ∀ w, Src Tryz.prog i0.size 32 (.slice (some x) 0 c) 0 [] w := fun w => by
      rw [hz1]
      exact Src.ofSlice _ Tryz.underlying32 x 0 c [] rfl (by simp) (by simp)
    go_enter Tryz.func98, Tryz.ntmps98
    go_wp2_with (at_builtin; refine olist_nothing Tryz.underlying32 hi rfl _ _ rfl rfl rfl (Nat.zero_le _) (hsrc _) ?_)
    go_wp2
    go_ret
    exact ⟨⟨some ⟨w.heap.size, 0, none⟩, 0, 0⟩, ⟨rfl, Nat.le_refl _⟩, rfl, ORow.empty _ _ _ _, fun h => absurd h (Nat.lt_irrefl 0), (Below.refl _ _).alloc (Nat.le_refl _) _⟩
theorem oclone_some (B : Nat) (A : Option Addr) (n c : Nat) (g : Nat → O4) (w : World) (hn : 0 < n) (hbig : n ≤ 100000) (hr : ORow w B A n g) :
    Calls Tryz.prog 98 #[.slice A n c] w (OClo w n g) := by
  obtain ⟨i0, hi, hz0, hz1, hz2⟩ := oinfo_parts info_op
  obtain ⟨b, off, rfl, _, hc⟩ := hr hn
  have HC := Lib.hid hc
  have q22 : ∀ (w : World) (a : Option Addr) (n c n' c' : Nat), (binOp .eql 32 (.slice a n c) (.slice none n' c')).run Tryz.prog w = .ok (.bool a.isNone) w := fun w a n c n' c' => Lib.run_eql_slice_nil w _ _ a n c n' c' Tryz.underlying32
  have u22 : ∀ w, Sem.run Tryz.prog (underlying 32) w = .ok (TypeDesc.slice 39) w := run_underlying Tryz.underlying32
  clear hc hr
  go_enter Tryz.func98, Tryz.ntmps98
  go_wp2_with (at_builtin; refine wpList_append_own _ rfl _ _ 32 rfl w.heap.size 39 i0 (.agg #[.int .i64 0, .int .i64 0, .int .i64 0, .int .i64 0]) 4 32 Tryz.underlying32 hi hz0 hz1 hz2 rfl (by decide) _ _ _ rfl (World.ownsRow_made w #[] 0 (Nat.le_refl _) (Nat.zero_le _) rfl) ⟨b, off, none⟩ n c (ocells g n) rfl ?qc1 ?qc2 ?qc3 ?qc4 ?qc5 ?qc6 ?_)
  case qc1 => exact ocells_length g n
  case qc2 =>
    intro j u hj
    rw [Addr.add_lit]
    exact Lib.cell?_alloc_some _ (ORow.src HC.out j u hj)
  case qc3 =>
    intro u hu
    obtain ⟨z, rfl⟩ := ocells_one hu
    rfl
  case qc4 => unfold maxLen; omega
  case qc5 => omega
  case qc6 => simp
  intro v' w1 hown hgrow hnil
  have hown' : w1.ownsRow w.heap.size 39 4 v' n (ocells g n) := by simpa using hown
  obtain ⟨s, rfl, hsn, hm, hcap, _, hnew⟩ := orow_of hown'
  have HS := Lib.hid (And.intro hsn (show n ≤ s.c from hcap))
  have HM := Lib.hid (And.intro hm (And.intro hnew hgrow))
  clear hown hown' hnil hm hnew hgrow hcap
  go_wp2
  go_ret
  exact ⟨s, HS.out, rfl, HM.out.1, HM.out.2.1, ((Below.refl _ w).alloc (Nat.le_refl _) _).grown HM.out.2.2 (by simp) (by intro k hk; simp [Value.ownBlock] at hk; omega)⟩
theorem oclone_any (B : Nat) (A : Option Addr) (n c : Nat) (g : Nat → O4) (w : World) (hbig : n ≤ 100000) (hr : ORow w B A n g) :
    Calls Tryz.prog 98 #[.slice A n c] w (OClo w n g) := by
  by_cases hn : n = 0
  · subst hn
    exact oclone_none A c g w
  · exact oclone_some B A n c g w (by omega) hbig hr
end Go.Proofs.YtgmkomnoiffapaaGreatDoor.Rt
end
section
namespace Go.Proofs.YtgmkomnoiffapaaGreatDoor.Rt
open Go.Proofs.YtgmkomnoiffapaaGreatDoor
open Go.RowKit
set_option maxRecDepth 100000

theorem from0_any (n last : Int) (w : World) : Calls Tryz.prog 43 #[.int .i64 n, .int .i64 last] w fun e w' => e = .returned (.bool (decide (0 ≤ n ∧ n ≤ last))) ∧ w' = w := by
  by_cases h1 : 0 ≤ n
  · by_cases h2 : n ≤ last
    · rw [show decide (0 ≤ n ∧ n ≤ last) = true from decide_eq_true ⟨h1, h2⟩]
      have g1 : decide (0 ≤ n) = true := decide_eq_true h1
      have g2 : decide (n ≤ last) = true := decide_eq_true h2
      go_enter Tryz.func43, Tryz.ntmps43
      go_wp2
      go_ret
      exact ⟨rfl, rfl⟩
    · rw [show decide (0 ≤ n ∧ n ≤ last) = false from decide_eq_false (fun h => h2 h.2)]
      have g1 : decide (0 ≤ n) = true := decide_eq_true h1
      have g2 : decide (n ≤ last) = false := decide_eq_false h2
      go_enter Tryz.func43, Tryz.ntmps43
      go_wp2
      go_ret
      exact ⟨rfl, rfl⟩
  · rw [show decide (0 ≤ n ∧ n ≤ last) = false from decide_eq_false (fun h => h1 h.1)]
    have g1 : decide (0 ≤ n) = false := decide_eq_false h1
    go_enter Tryz.func43, Tryz.ntmps43
    go_wp2
    go_ret
    exact ⟨rfl, rfl⟩
theorem isReg_any (r : Int) (w : World) : Calls Tryz.prog 44 #[.int .i64 r] w fun e w' => e = .returned (.bool (inReg r)) ∧ w' = w := by
  go_enter Tryz.func44, Tryz.ntmps44
  go_wp2_with fail
  have hC9 := from0_any r 3 w
  rw [show decide (0 ≤ r ∧ r ≤ 3) = inReg r from rfl] at hC9
  refine hC9.mono ?_
  rintro e w1 ⟨rfl, rfl⟩
  go_wp2
  go_ret
  exact ⟨rfl, rfl⟩
theorem get_no (t : Ts) (r : Int) (hr : inReg r = false) (w : World) : Calls Tryz.prog 16 #[(.agg #[.bool t.lv, .int .i64 (t.r 0), .int .i64 (t.r 1), .int .i64 (t.r 2), .int .i64 (t.r 3), .slice (t.u 0).a (t.u 0).n (t.u 0).c, .slice (t.u 1).a (t.u 1).n (t.u 1).c, .slice (t.u 2).a (t.u 2).n (t.u 2).c, .int .i64 t.ep, .int .i64 t.sg, .int .i64 t.rt, .slice t.o.a t.o.n t.o.c, .int .i64 t.pc, .int .i64 t.x, .int .i64 t.y]), .int .i64 r] w fun e w' => e = .returned (.tuple #[.int .i64 (getV t r), .int .i64 (getE r)]) ∧ Below w.heap.size w w' := by
  rw [show getV t r = 0 from if_neg (by rw [hr]; decide), show getE r = 1 from if_neg (by rw [hr]; decide)]
  have C1 := Lib.hid (fun W => isReg_any r W)
  rw [hr] at C1
  go_enter Tryz.func16, Tryz.ntmps16
  go_wp2_with fail
  refine (C1.out _).mono ?_
  rintro e w1 ⟨rfl, rfl⟩
  go_wp2
  go_ret2
  exact ⟨rfl, (Below.refl _ _).alloc (Nat.le_refl _) _⟩
theorem get_yes (t : Ts) (k : Nat) (hk : k < 4) (w : World) : Calls Tryz.prog 16 #[(.agg #[.bool t.lv, .int .i64 (t.r 0), .int .i64 (t.r 1), .int .i64 (t.r 2), .int .i64 (t.r 3), .slice (t.u 0).a (t.u 0).n (t.u 0).c, .slice (t.u 1).a (t.u 1).n (t.u 1).c, .slice (t.u 2).a (t.u 2).n (t.u 2).c, .int .i64 t.ep, .int .i64 t.sg, .int .i64 t.rt, .slice t.o.a t.o.n t.o.c, .int .i64 t.pc, .int .i64 t.x, .int .i64 t.y]), .int .i64 (k : Int)] w fun e w' => e = .returned (.tuple #[.int .i64 (t.r k), .int .i64 0]) ∧ Below w.heap.size w w' := by
  have C1 := Lib.hid (fun W => isReg_any (k : Int) W)
  rw [inReg_nat hk] at C1
  go_enter Tryz.func16, Tryz.ntmps16
  go_wp2_with fail
  refine (C1.out _).mono ?_
  rintro e w1 ⟨rfl, rfl⟩
  have q := tbox_reg (Box.new w (tv t) 34) hk
  obtain ⟨W1, hW1⟩ : ∃ W1, W1 = w.alloc (.cells #[.bool t.lv, .int .i64 (t.r 0), .int .i64 (t.r 1), .int .i64 (t.r 2), .int .i64 (t.r 3), .slice (t.u 0).a (t.u 0).n (t.u 0).c, .slice (t.u 1).a (t.u 1).n (t.u 1).c, .slice (t.u 2).a (t.u 2).n (t.u 2).c, .int .i64 t.ep, .int .i64 t.sg, .int .i64 t.rt, .slice t.o.a t.o.n t.o.c, .int .i64 t.pc, .int .i64 t.x, .int .i64 t.y] 34) := ⟨_, rfl⟩
  have B1 : Hid (Below w.heap.size w W1) := Lib.hid (by rw [hW1]; exact (Below.refl _ _).alloc (Nat.le_refl _) _)
  have q1 : W1.cell? ⟨w.heap.size, 1 + k, none⟩ = some (.int .i64 (t.r k)) := by rw [hW1]; exact q
  rw [← hW1]
  clear hW1 q
  go_wp2
  go_ret2
  exact ⟨rfl, B1.out⟩
theorem get_any (t : Ts) (r : Int) (w : World) : Calls Tryz.prog 16 #[(.agg #[.bool t.lv, .int .i64 (t.r 0), .int .i64 (t.r 1), .int .i64 (t.r 2), .int .i64 (t.r 3), .slice (t.u 0).a (t.u 0).n (t.u 0).c, .slice (t.u 1).a (t.u 1).n (t.u 1).c, .slice (t.u 2).a (t.u 2).n (t.u 2).c, .int .i64 t.ep, .int .i64 t.sg, .int .i64 t.rt, .slice t.o.a t.o.n t.o.c, .int .i64 t.pc, .int .i64 t.x, .int .i64 t.y]), .int .i64 r] w fun e w' => e = .returned (.tuple #[.int .i64 (getV t r), .int .i64 (getE r)]) ∧ Below w.heap.size w w' := by
  cases hr : inReg r with
  | false => exact get_no t r hr w
  | true =>
    obtain ⟨k, hk, rfl⟩ := inReg_yes hr
    have := get_yes t k hk w
    rw [← getV_at t hk, ← show getE (k : Int) = 0 from if_pos hr] at this
    exact this
theorem may_is (t : Ts) : mayT t = (decide (0 ≤ t.sg ∧ t.sg ≤ 3) && inReg t.rt && decide (0 ≤ t.pc ∧ t.pc ≤ 4) && decide (t.o.n ≤ 200) && (t.pc == 0 || decide (0 < t.o.n))) := by
  unfold mayT inReg
  rw [Bool.eq_iff_iff]
  simp only [decide_eq_true_eq, Bool.and_eq_true, Bool.or_eq_true, beq_iff_eq]
  omega
set_option maxHeartbeats 1000000 in
theorem may_core (t : Ts) (b1 b2 b3 b4 b5 b6 : Bool) (h1 : decide (0 ≤ t.sg ∧ t.sg ≤ 3) = b1) (h2 : inReg t.rt = b2) (h3 : decide (0 ≤ t.pc ∧ t.pc ≤ 4) = b3) (h4 : decide (t.o.n ≤ 200) = b4) (h5 : (t.pc == 0) = b5) (h6 : decide (0 < t.o.n) = b6) (w : World) :
    Calls Tryz.prog 13 #[(.agg #[.bool t.lv, .int .i64 (t.r 0), .int .i64 (t.r 1), .int .i64 (t.r 2), .int .i64 (t.r 3), .slice (t.u 0).a (t.u 0).n (t.u 0).c, .slice (t.u 1).a (t.u 1).n (t.u 1).c, .slice (t.u 2).a (t.u 2).n (t.u 2).c, .int .i64 t.ep, .int .i64 t.sg, .int .i64 t.rt, .slice t.o.a t.o.n t.o.c, .int .i64 t.pc, .int .i64 t.x, .int .i64 t.y])] w fun e w' => e = .returned (.bool (b1 && b2 && b3 && b4 && (b5 || b6))) ∧ Below w.heap.size w w' := by
  have C1 := Lib.hid (fun W => from0_any t.sg 3 W)
  have C2 := Lib.hid (fun W => isReg_any t.rt W)
  have C3 := Lib.hid (fun W => from0_any t.pc 4 W)
  have g4 : decide ((t.o.n : Int) ≤ 200) = b4 := by rw [← h4]; exact decide_eq_decide.2 (by omega)
  have g6 : decide ((0 : Int) < (t.o.n : Int)) = b6 := by rw [← h6]; exact decide_eq_decide.2 (by omega)
  have g5 : decide (t.pc = 0) = b5 := by rw [← h5]; rfl
  rw [h1] at C1
  rw [h2] at C2
  rw [h3] at C3
  clear h1 h2 h3
  cases b1 with
  | false =>
    clear C2 C3 h4 h5 h6 g4 g5 g6
    go_enter Tryz.func13, Tryz.ntmps13
    go_wp2_with fail
    refine (C1.out _).mono ?_
    rintro e w1 ⟨rfl, rfl⟩
    go_wp2
    go_ret
    exact ⟨rfl, (Below.refl _ _).alloc (Nat.le_refl _) _⟩
  | true =>
    cases b2 with
    | false =>
      clear C3 h4 h5 h6 g4 g5 g6
      go_enter Tryz.func13, Tryz.ntmps13
      go_wp2_with fail
      refine (C1.out _).mono ?_
      rintro e w1 ⟨rfl, rfl⟩
      go_wp2_with fail
      refine (C2.out _).mono ?_
      rintro e w1 ⟨rfl, rfl⟩
      go_wp2
      go_ret
      exact ⟨rfl, (Below.refl _ _).alloc (Nat.le_refl _) _⟩
    | true =>
      cases b3 with
      | false =>
        clear h4 h5 h6 g4 g5 g6
        go_enter Tryz.func13, Tryz.ntmps13
        go_wp2_with fail
        refine (C1.out _).mono ?_
        rintro e w1 ⟨rfl, rfl⟩
        go_wp2_with fail
        refine (C2.out _).mono ?_
        rintro e w1 ⟨rfl, rfl⟩
        go_wp2_with fail
        refine (C3.out _).mono ?_
        rintro e w1 ⟨rfl, rfl⟩
        go_wp2
        go_ret
        exact ⟨rfl, (Below.refl _ _).alloc (Nat.le_refl _) _⟩
      | true =>
        cases b4 with
        | false =>
          clear h5 h6 g5 g6
          go_enter Tryz.func13, Tryz.ntmps13
          go_wp2_with fail
          refine (C1.out _).mono ?_
          rintro e w1 ⟨rfl, rfl⟩
          go_wp2_with fail
          refine (C2.out _).mono ?_
          rintro e w1 ⟨rfl, rfl⟩
          go_wp2_with fail
          refine (C3.out _).mono ?_
          rintro e w1 ⟨rfl, rfl⟩
          go_wp2
          go_ret
          exact ⟨rfl, (Below.refl _ _).alloc (Nat.le_refl _) _⟩
        | true =>
          cases b5 with
          | true =>
            clear h6 g6
            go_enter Tryz.func13, Tryz.ntmps13
            go_wp2_with fail
            refine (C1.out _).mono ?_
            rintro e w1 ⟨rfl, rfl⟩
            go_wp2_with fail
            refine (C2.out _).mono ?_
            rintro e w1 ⟨rfl, rfl⟩
            go_wp2_with fail
            refine (C3.out _).mono ?_
            rintro e w1 ⟨rfl, rfl⟩
            go_wp2
            go_ret
            exact ⟨rfl, (Below.refl _ _).alloc (Nat.le_refl _) _⟩
          | false =>
            cases b6 with
            | false =>
              go_enter Tryz.func13, Tryz.ntmps13
              go_wp2_with fail
              refine (C1.out _).mono ?_
              rintro e w1 ⟨rfl, rfl⟩
              go_wp2_with fail
              refine (C2.out _).mono ?_
              rintro e w1 ⟨rfl, rfl⟩
              go_wp2_with fail
              refine (C3.out _).mono ?_
              rintro e w1 ⟨rfl, rfl⟩
              go_wp2
              go_ret
              exact ⟨rfl, (Below.refl _ _).alloc (Nat.le_refl _) _⟩
            | true =>
              go_enter Tryz.func13, Tryz.ntmps13
              go_wp2_with fail
              refine (C1.out _).mono ?_
              rintro e w1 ⟨rfl, rfl⟩
              go_wp2_with fail
              refine (C2.out _).mono ?_
              rintro e w1 ⟨rfl, rfl⟩
              go_wp2_with fail
              refine (C3.out _).mono ?_
              rintro e w1 ⟨rfl, rfl⟩
              go_wp2
              go_ret
              exact ⟨rfl, (Below.refl _ _).alloc (Nat.le_refl _) _⟩
theorem may_any (t : Ts) (w : World) : Calls Tryz.prog 13 #[(.agg #[.bool t.lv, .int .i64 (t.r 0), .int .i64 (t.r 1), .int .i64 (t.r 2), .int .i64 (t.r 3), .slice (t.u 0).a (t.u 0).n (t.u 0).c, .slice (t.u 1).a (t.u 1).n (t.u 1).c, .slice (t.u 2).a (t.u 2).n (t.u 2).c, .int .i64 t.ep, .int .i64 t.sg, .int .i64 t.rt, .slice t.o.a t.o.n t.o.c, .int .i64 t.pc, .int .i64 t.x, .int .i64 t.y])] w fun e w' => e = .returned (.bool (mayT t)) ∧ Below w.heap.size w w' := by
  rw [may_is]
  exact may_core t _ _ _ _ _ _ rfl rfl rfl rfl rfl rfl w
end Go.Proofs.YtgmkomnoiffapaaGreatDoor.Rt
end
section
namespace Go.Proofs.YtgmkomnoiffapaaGreatDoor.Ls
open Go.Proofs.YtgmkomnoiffapaaGreatDoor
open Go.RowKit
set_option maxRecDepth 100000

structure AOwn (w wr : World) (f : Nat → List Int) (k : Nat) (v : Nat → Sl) : Prop where
  box : Box3 wr w.heap.size v
  res : Box3 wr (w.heap.size + 1) noSl
  own : OwnTo wr (w.heap.size + 2) k v f
  bel : Below w.heap.size w wr
theorem AOwn.size {w wr : World} {v : Nat → Sl} {f : Nat → List Int} {k : Nat} (h : AOwn w wr f k v) : w.heap.size + 2 ≤ wr.heap.size := by have := h.res.lt; omega
theorem AOwn.step {w wr w1 w2 : World} {v : Nat → Sl} {f : Nat → List Int} {k : Nat} (h : AOwn w wr f k v) (hk : k < 3) (s : Sl)
    (ho : w1.ownsRow wr.heap.size 3 1 (.slice s.a s.n s.c) s.n ((f k).map (Value.int .i64))) (b1 : Below wr.heap.size wr w1) (e2 : w2 = w1.setCell ⟨w.heap.size, k, none⟩ (.slice s.a s.n s.c)) : AOwn w w2 f (k + 1) (upd v k s) := by
  have hs := h.size
  subst e2
  refine ⟨(h.box.next b1).set hk s, (h.res.next b1).other (by simp) _, ?_, (h.bel.trans (b1.mono h.bel.size)).setCell (p := ⟨w.heap.size, k, none⟩) (by simp) _⟩
  refine h.own.step hs s (World.ownsRow.same ho (fun g hg' _ => Below.heap_setCell _ _ _ _ ?_)) (fun j hj hlt => (Below.heap_setCell _ _ _ _ (by show ¬ j = w.heap.size; omega)).trans (b1.block j hlt))
  have := (ho.lt g hg').1
  show ¬ g = w.heap.size
  omega
theorem aown_any (B : Nat) (u : Nat → Sl) (f : Nat → List Int) (w : World) (h : L3 w B u f) (hB : B ≤ w.heap.size) (hn : ∀ j, j < 3 → (u j).n ≤ 2000000) :
    Calls Tryz.prog 96 #[(.agg #[.slice (u 0).a (u 0).n (u 0).c, .slice (u 1).a (u 1).n (u 1).c, .slice (u 2).a (u 2).n (u 2).c])] w (COut w f) := by
  have C4 := Lib.hid (fun j (hj : j < 3) W (hb : Below w.heap.size w W) => iclone_any B (u j).a (u j).n (u j).c (f j) W (hn j hj) (Nat.le_trans hB hb.size) ((h j hj).1.over hb hB))
  clear h hn
  go_enter Tryz.func96, Tryz.ntmps96
  go_wp2
  go_loopw [6] (fun i wr => ∃ (k : Nat) (v : Nat → Sl), k ≤ 3 ∧ i = .int .i64 k ∧ Hid (AOwn w wr f k v)) (fun i _ => 3 - (intOf i).toNat)
  case atStart =>
    refine ⟨0, u, by omega, rfl, Lib.hid ⟨(Box3.new w u 25).alloc _, ?_, OwnTo.start _ _ _ _, ((Below.refl _ _).alloc (Nat.le_refl _) _).alloc (by simp) _⟩⟩
    have := Box3.new (w.alloc (.cells #[.slice (u 0).a (u 0).n (u 0).c, .slice (u 1).a (u 1).n (u 1).c, .slice (u 2).a (u 2).n (u 2).c] 25)) noSl 25
    rw [World.size_alloc] at this
    exact this
  case round =>
    obtain ⟨k, v, hk, rfl, HC⟩ := hrel
    by_cases hlt : k < 3
    · have hix := index_of u k hlt
      go_wp2_with fail
      refine (C4.out k hlt _ HC.out.bel).mono ?_
      rintro e w1 ⟨s, rfl, ho, hb1⟩
      have hB1 := HC.out.box.next hb1
      have hc1 := hB1.cell k hlt
      have hf1 := hB1.free k
      have hl1 := hB1.lt
      have S1 := Lib.hid (HC.out.step hlt s ho hb1 rfl)
      clear ho hb1 hB1
      go_wp2
      go_roundw
      case rel => exact ⟨k + 1, _, by omega, by go_num, S1⟩
      case measure => simp [intOf]; omega
    · obtain rfl : k = 3 := by omega
      have r0 := HC.out.box.cell 0 (by decide)
      have r1 := HC.out.box.cell 1 (by decide)
      have r2 := HC.out.box.cell 2 (by decide)
      have rl := HC.out.box.lt
      have x0 := HC.out.res.cell 0 (by decide)
      have x1 := HC.out.res.cell 1 (by decide)
      have x2 := HC.out.res.cell 2 (by decide)
      have y0 := HC.out.res.free 0
      have y1 := HC.out.res.free 1
      have y2 := HC.out.res.free 2
      have xl := HC.out.res.lt
      go_wp2
      refine bodyPost_ret (v := (.agg #[.slice (v 0).a (v 0).n (v 0).c, .slice (v 1).a (v 1).n (v 1).c, .slice (v 2).a (v 2).n (v 2).c])) ?_ rfl ⟨v, rfl, (HC.out.own.own3.put (b := w.heap.size + 1) (fun j x hj hx => by have := (HC.out.own.own3.block j hj hx).1; omega) v).less (by omega), below_put3 HC.out.bel (by omega) v⟩
      simp [results, Tryz.results96, go_sem, x0, x1, x2]
end Go.Proofs.YtgmkomnoiffapaaGreatDoor.Ls
end
