/-
  A word's operation: code.operation.
-/
import Derived.Test.YtggjkagcnhhkjaaDoorCdWord
import Derived.Lib.OthersKept
import Derived.Deep.Upon
import Derived.Laws.StructEq
namespace Go.Proofs.YtggjkagcnhhkjaaDoor.Cd
open Go.Proofs.YtggjkagcnhhkjaaDoor Go.Proofs.YtggjkagcnhhkjaaDoor.Rt
open Go.RowKit
set_option maxRecDepth 100000

theorem beq_data (x y : ByteArray) : (x == y) = (x.data == y.data) := rfl
theorem bs_beq (x y : List UInt8) : (bs x == bs y) = decide (x = y) := by
  rw [beq_data, Bool.eq_iff_iff]
  simp [bs]
/-- '==' of two texts. -/
theorem bs_eql (x y : List UInt8) : ((bs x).toList == (bs y).toList) = decide (x = y) := by rw [← beq_toListBytes]; exact bs_beq x y
def OpOut (w : World) (wd : List UInt8) (e : Ending) (w' : World) : Prop := Below w.heap.size w w' ∧ ((∃ x, may x ∧ word x = wd ∧ e = .returned (opv x)) ∨ (Panics e ∧ NoOp wd))
theorem _root_.Go.Proofs.YtggjkagcnhhkjaaDoor.Rt.Box.iterAt {W : World} {b it : Nat} {vs : List Value} (h : Box W b vs) (hne : b ≠ it) (s : ByteArray) (p : Nat) : Box (W.iterAt it s p) b vs :=
  h.same (Lib.iterAt_other _ _ _ _ _ hne) (by rw [Lib.iterAt_size]; exact Nat.le_refl _)
theorem iter_next {W W' : World} {it : Nat} {s : ByteArray} {p : Nat} (h : W.heap[it]? = some (.stringIter s p)) (hb : Below W.heap.size W W') : W'.heap[it]? = some (.stringIter s p) := by
  rw [hb.block it (Array.getElem?_eq_some_iff.1 h).1]
  exact h
theorem iter_pos {W : World} {it : Nat} {s : ByteArray} {p : Nat} (h : W.heap[it]? = some (.stringIter s p)) : W.iterPos it = p := by simp [World.iterPos, h]
theorem iter_set {W : World} {it : Nat} {s : ByteArray} {p : Nat} (h : W.heap[it]? = some (.stringIter s p)) (q : Addr) (hne : it ≠ q.block) (v : Value) : (W.setCell q v).heap[it]? = some (.stringIter s p) := by
  rw [Below.heap_setCell _ _ _ _ hne]
  exact h
/-- A word, under way: where the iterator stands; what was read. -/
structure Way (w wr : World) (wd : List UInt8) (pos i : Nat) (k : Int) (f : Nat → Int) : Prop where
  it : wr.heap[w.heap.size + 3]? = some (.stringIter (bs wd) pos)
  le : pos ≤ wd.length
  res : Box wr w.heap.size [.int .i64 0, .int .i64 0, .int .i64 0, .int .i64 0]
  op : Box wr (w.heap.size + 1) [.int .i64 k, .int .i64 0, .int .i64 0, .int .i64 0]
  num : Box wr (w.heap.size + 2) [.int .i64 (f 0), .int .i64 (f 1), .int .i64 (f 2)]
  at_ : i ≤ 2
  bd : ∀ j, 0 ≤ f j ∧ f j ≤ 999
  bel : Below w.heap.size w wr
  inv : (pos = 0 ∧ i = 0 ∧ k = 0 ∧ f = fun _ => 0) ∨ (0 < pos ∧ Inv wd pos i k f)
theorem num_at {wr : World} {b : Nat} {f : Nat → Int} (h : Box wr b [.int .i64 (f 0), .int .i64 (f 1), .int .i64 (f 2)]) {i : Nat} (hi : i ≤ 2) : wr.cell? ⟨b, i, none⟩ = some (.int .i64 (f i)) := by
  match i, hi with
  | 0, _ => exact h.cel 0 _ rfl
  | 1, _ => exact h.cel 1 _ rfl
  | 2, _ => exact h.cel 2 _ rfl
theorem num_set {wr : World} {b : Nat} {f : Nat → Int} (h : Box wr b [.int .i64 (f 0), .int .i64 (f 1), .int .i64 (f 2)]) {i : Nat} (hi : i ≤ 2) (v : Int) : Box (wr.setCell ⟨b, i, none⟩ (.int .i64 v)) b [.int .i64 (Ls.upd f i v 0), .int .i64 (Ls.upd f i v 1), .int .i64 (Ls.upd f i v 2)] := by
  match i, hi with
  | 0, _ => exact h.set 0 _
  | 1, _ => exact h.set 1 _
  | 2, _ => exact h.set 2 _
/-- The iterator moves on. -/
theorem Way.step {w wr : World} {wd : List UInt8} {pos i : Nat} {k : Int} {f : Nat → Int} (h : Way w wr wd pos i k f) (p : Nat) : (wr.iterAt (w.heap.size + 3) (bs wd) p).heap[w.heap.size + 3]? = some (.stringIter (bs wd) p) ∧ Box (wr.iterAt (w.heap.size + 3) (bs wd) p) w.heap.size [.int .i64 0, .int .i64 0, .int .i64 0, .int .i64 0] ∧ Box (wr.iterAt (w.heap.size + 3) (bs wd) p) (w.heap.size + 1) [.int .i64 k, .int .i64 0, .int .i64 0, .int .i64 0] ∧ Box (wr.iterAt (w.heap.size + 3) (bs wd) p) (w.heap.size + 2) [.int .i64 (f 0), .int .i64 (f 1), .int .i64 (f 2)] ∧ Below w.heap.size w (wr.iterAt (w.heap.size + 3) (bs wd) p) :=
  ⟨Lib.iterAt_heap _ _ _ _ _ h.it, h.res.iterAt (by omega) _ _, h.op.iterAt (by omega) _ _, h.num.iterAt (by omega) _ _, Lib.below_iterAt h.bel (by omega) _ _⟩
section
variable {wd : List UInt8} {pos i : Nat} {k : Int} {f : Nat → Int} {r n : Nat}
theorem rune_comma (h : Inv wd pos i k f) (hp : pos < wd.length) (hd : Utf8.decode (bs wd) pos = (r, n)) (hr : r = 44) (hi : i < 2) : Inv wd (pos + n) (i + 1) k f := by
  have rb := rune_byte hp hd (by rw [hr]; omega)
  rw [rb.2]
  exact inv_comma h hp (comma_iff.2 (by rw [rb.1, hr])) hi
theorem rune_dig (h : Inv wd pos i k f) (hp : pos < wd.length) (hd : Utf8.decode (bs wd) pos = (r, n)) (hb : ∀ j, 0 ≤ f j ∧ f j ≤ 999) (ho : OkD (f i) r) : Inv wd (pos + n) i k (Ls.upd f i (10 * f i + ((r : Int) - 48))) := by
  obtain ⟨o1, o2, o3⟩ := ho
  have rb := rune_byte hp hd (by omega)
  rw [rb.2]
  have hv : val (wd[pos]'hp) = (r : Int) - 48 := by unfold val; rw [rb.1]
  rw [← hv]
  exact inv_dig h hp (dig_iff.2 (by rw [rb.1]; omega)) (by have := (hb i).2; omega)
theorem rune_no (h : Inv wd pos i k f) (hp : pos < wd.length) (hd : Utf8.decode (bs wd) pos = (r, n)) (hb : ∀ j, 0 ≤ f j ∧ f j ≤ 999) (hi : i ≤ 2) (hc : ¬ (r = 44 ∧ i < 2)) (ho : ¬ OkD (f i) r) : NoOp wd := by
  by_cases hu : (wd[pos]'hp).toNat < 128
  · have br := byte_rune hp hd hu
    by_cases hg : isDig (wd[pos]'hp)
    · have hg' := dig_iff.1 hg
      have hv : val (wd[pos]'hp) = (r : Int) - 48 := by unfold val; rw [br.1]
      refine inv_big h hp (fun j => (hb j).1) hi hg ?_
      rw [hv]
      refine Decidable.byContradiction (fun hlt => ho ⟨by omega, by omega, by omega⟩)
    · exact inv_no h hp (fun e => hc ⟨by rw [br.1, e.1]; rfl, e.2⟩) (fun e => hg e.1)
  · exact inv_no h hp (fun e => hu (by rw [e.1]; decide)) (fun e => hu (by have := dig_iff.1 e.1; omega))
end
theorem way_start (w : World) (wd : List UInt8) : Way w ((((w.alloc (.cells #[.int .i64 0, .int .i64 0, .int .i64 0, .int .i64 0] 28)).alloc (.cells #[.int .i64 0, .int .i64 0, .int .i64 0, .int .i64 0] 28)).alloc (.cells #[.int .i64 0, .int .i64 0, .int .i64 0] 42)).iter (bs wd) 0) wd 0 0 0 (fun _ => 0) := by
  have s1 : (w.alloc (.cells #[.int .i64 0, .int .i64 0, .int .i64 0, .int .i64 0] 28)).heap.size = w.heap.size + 1 := by simp
  have s2 : ((w.alloc (.cells #[.int .i64 0, .int .i64 0, .int .i64 0, .int .i64 0] 28)).alloc (.cells #[.int .i64 0, .int .i64 0, .int .i64 0, .int .i64 0] 28)).heap.size = w.heap.size + 2 := by simp
  have s3 : (((w.alloc (.cells #[.int .i64 0, .int .i64 0, .int .i64 0, .int .i64 0] 28)).alloc (.cells #[.int .i64 0, .int .i64 0, .int .i64 0, .int .i64 0] 28)).alloc (.cells #[.int .i64 0, .int .i64 0, .int .i64 0] 42)).heap.size = w.heap.size + 3 := by simp
  have nx : ∀ (W : World) (o : Obj), Below W.heap.size W (W.alloc o) := fun W o => (Below.refl _ _).alloc (Nat.le_refl _) o
  have x1 := Box.new w [.int .i64 0, .int .i64 0, .int .i64 0, .int .i64 0] 28
  have x2 := Box.new (w.alloc (.cells #[.int .i64 0, .int .i64 0, .int .i64 0, .int .i64 0] 28)) [.int .i64 0, .int .i64 0, .int .i64 0, .int .i64 0] 28
  have x3 := Box.new ((w.alloc (.cells #[.int .i64 0, .int .i64 0, .int .i64 0, .int .i64 0] 28)).alloc (.cells #[.int .i64 0, .int .i64 0, .int .i64 0, .int .i64 0] 28)) [.int .i64 0, .int .i64 0, .int .i64 0] 42
  rw [s1] at x2
  rw [s2] at x3
  refine ⟨?_, Nat.zero_le _, ((x1.next (nx _ _)).next (nx _ _)).next (nx _ _), (x2.next (nx _ _)).next (nx _ _), x3.next (nx _ _), by omega, fun j => ⟨by omega, by omega⟩, ?_, .inl ⟨rfl, rfl, rfl, rfl⟩⟩
  · rw [← s3]
    exact World.iter_heap _ _ _
  · exact ((((Below.refl _ w).alloc (Nat.le_refl _) _).alloc (by rw [s1]; omega) _).alloc (by rw [s2]; omega) _).alloc (by rw [s3]; omega) _
set_option maxHeartbeats 1000000 in
theorem op_any (wd : List UInt8) (w : World) (hT : Tb w) : Calls Tryd.prog 34 #[.string (bs wd)] w (OpOut w wd) := by
  have HT := Lib.hid hT
  clear hT
  go_enter Tryd.func34, Tryd.ntmps34
  go_wp2
  go_loopw [5] (fun a wr => ∃ (pos i : Nat) (k : Int) (f : Nat → Int), a = .int .i64 i ∧ Hid (Way w wr wd pos i k f)) (fun _ wr => wd.length - wr.iterPos (w.heap.size + 3))
  case atStart => exact ⟨0, 0, 0, fun _ => 0, rfl, Lib.hid (way_start w wd)⟩
  case round =>
    obtain ⟨pos, i, k, f, rfl, HW⟩ := hrel
    by_cases hp : pos < wd.length
    · obtain ⟨⟨r, n⟩, hd⟩ : ∃ q, q = Utf8.decode (bs wd) pos := ⟨_, rfl⟩
      have hd' : Utf8.decode (bs wd) pos = (r, n) := hd.symm
      clear hd
      have hp' : pos < (bs wd).size := by rw [bs_size]; exact hp
      obtain ⟨d1, d2, d3⟩ := decode_width (bs wd) pos hp'
      have d4 := decode_le (bs wd) pos
      rw [hd'] at d1 d2 d3 d4
      rw [bs_size] at d2
      dsimp only at d1 d2 d3 d4
      have hnx : ∀ ty, (Instr.next (.pointer (some ⟨w.heap.size + 3, 0, none⟩)) true ty).run Tryd.prog wr = .ok (.tuple #[.bool true, .int .i64 pos, .int .i32 r]) (wr.iterAt (w.heap.size + 3) (bs wd) (pos + n)) := fun ty => by
        have := Lib.run_next_any_at (P := Tryd.prog) wr (w.heap.size + 3) (bs wd) pos ty HW.out.it hp'
        rw [hd'] at this
        exact this
      have HS := Lib.hid (HW.out.step (pos + n))
      have HP := iter_pos HW.out.it
      have HPP := Lib.hid HP
      have HD := Lib.hid (And.intro hd' (And.intro d1 d2))
      clear HP hd' d1 d2 d3
      generalize wr.iterAt (w.heap.size + 3) (bs wd) (pos + n) = w1 at hnx HS
      by_cases h0 : pos = 0
      · have h0' : ((pos : Int) == 0) = true := by rw [h0]; rfl
        go_wp2_with fail
        refine (kind_any r w1 (WalkArith.wf_i32 ⟨by omega, by omega⟩)).mono ?_
        rintro e w2 ⟨hb2, (⟨hs, rfl⟩ | ⟨hs, he⟩)⟩
        · have HI := Lib.hid (inv_rune (wd := wd) (r := r) (n := n) (by rw [← h0]; exact HD.out.1))
          have H2 := Lib.hid (And.intro (iter_next HS.out.1 hb2) (And.intro (HS.out.2.1.next hb2) (And.intro (HS.out.2.2.1.next hb2) (And.intro (HS.out.2.2.2.1.next hb2) (HS.out.2.2.2.2.trans (hb2.mono HS.out.2.2.2.2.size))))))
          clear hb2 hs HS
          have p0 := H2.out.2.2.1.cel 0 _ rfl
          have pf := H2.out.2.2.1.free 0
          have pl := H2.out.2.2.1.lt
          go_wp2
          go_roundw
          case rel =>
            obtain ⟨e1, e2, e3⟩ : i = 0 ∧ k = 0 ∧ f = fun _ => 0 := by
              rcases HW.out.inv with h | h
              · exact h.2
              · omega
            refine ⟨pos + n, i, kindR r, f, rfl, Lib.hid ⟨?_, ?_, ?_, ?_, ?_, ?_, HW.out.bd, ?_, .inr ⟨?_, ?_⟩⟩⟩
            · exact iter_set H2.out.1 _ (by show w.heap.size + 3 ≠ w.heap.size + 1; omega) _
            · exact HD.out.2.2
            · exact H2.out.2.1.other (by show ¬ w.heap.size = w.heap.size + 1; omega) _
            · exact H2.out.2.2.1.set 0 _
            · exact H2.out.2.2.2.1.other (by show ¬ w.heap.size + 2 = w.heap.size + 1; omega) _
            · exact HW.out.at_
            · exact H2.out.2.2.2.2.setCell (p := ⟨w.heap.size + 1, 0, none⟩) (by show w.heap.size ≤ w.heap.size + 1; omega) _
            · have := HD.out.2.1; omega
            · rw [e1, e3, h0, Nat.zero_add]
              exact HI.out
          case measure =>
            have e1 := iter_pos (iter_set H2.out.1 ⟨w.heap.size + 1, 0, none⟩ (by show w.heap.size + 3 ≠ w.heap.size + 1; omega) (.int .i64 (kindR r)))
            have e2 := HPP.out
            have e3 := HD.out.2.1
            omega
        · have HB := Lib.hid (HS.out.2.2.2.2.trans (hb2.mono HS.out.2.2.2.2.size))
          have HN := Lib.hid (noop_rune (wd := wd) (r := r) (n := n) (by rw [← h0]; exact HD.out.1) hs)
          unfold Panics at he
          subst he
          go_wp2
          exact ⟨rfl, HB.out, .inr ⟨rfl, HN.out⟩⟩
      · have h0' : ((pos : Int) == 0) = false := by simp; omega
        have hinv : 0 < pos ∧ Inv wd pos i k f := by
          rcases HW.out.inv with h | h
          · exact absurd h.1 h0
          · exact h
        have HV := Lib.hid hinv
        have hi2 := HW.out.at_
        by_cases hc : r = 44 ∧ i < 2
        · obtain ⟨hr, hi⟩ := hc
          have hrb : ((r : Int) == 44) = true := by rw [hr]; rfl
          have hi' : (i : Int) + 1 < 3 := by omega
          have HC := Lib.hid hr
          clear hr hinv
          go_wp2
          go_roundw
          case rel =>
            exact ⟨pos + n, i + 1, k, f, by rfl, Lib.hid ⟨HS.out.1, HD.out.2.2, HS.out.2.1, HS.out.2.2.1, HS.out.2.2.2.1, by omega, HW.out.bd, HS.out.2.2.2.2, .inr ⟨by have := HD.out.2.1; omega, rune_comma HV.out.2 hp HD.out.1 HC.out hi⟩⟩⟩
          case measure =>
            have e1 := iter_pos HS.out.1
            have e2 := HPP.out
            have e3 := HD.out.2.1
            omega
        · have HC := Lib.hid hc
          have hci : (i : Int) < 3 := by omega
          have hci0 : (0 : Int) ≤ (i : Int) := by omega
          have hcn : i < 3 := by omega
          have q := num_at HS.out.2.2.2.1 hi2
          have qf := HS.out.2.2.2.1.free i
          have ql := HS.out.2.2.2.1.lt
          have HL : ∀ W, Calls Tryd.prog 43 #[.int .i64 (f i), .int .i32 (r : Int)] W (LOut W (f i) r) := fun W => longer_any _ _ W (HW.out.bd i) ⟨by omega, by omega⟩
          have HLL := Lib.hid HL
          have HG : (decide ((r : Int) = 44 ∧ (i : Int) + 1 < 3)) = false := by simp; omega
          clear hc hinv HL
          by_cases hr : r = 44
          · have hrb : ((r : Int) == 44) = true := by rw [hr]; rfl
            have hi' : ¬ (i : Int) + 1 < 3 := by have := HC.out; omega
            have HN := Lib.hid (rune_no HV.out.2 hp HD.out.1 HW.out.bd hi2 HC.out (fun ho => by have := ho.1; omega))
            go_wp2_with fail
            refine (longer_any (f i) 44 _ (HW.out.bd i) ⟨by omega, by omega⟩).mono ?_
            rintro e w2 ⟨rfl, (⟨ho, rfl⟩ | ⟨ho, he⟩)⟩
            · exact absurd ho.1 (by omega)
            · unfold Panics at he
              subst he
              go_wp2
              exact ⟨rfl, HS.out.2.2.2.2, .inr ⟨rfl, HN.out⟩⟩
          · have hrb : ((r : Int) == 44) = false := by simp; omega
            go_wp2_with fail
            refine (HLL.out _).mono ?_
            rintro e w2 ⟨rfl, (⟨ho, rfl⟩ | ⟨ho, he⟩)⟩
            · have HO := Lib.hid ho
              clear ho
              generalize hv : 10 * f i + ((r : Int) - 48) = v
              have HVV := Lib.hid hv
              clear hv
              go_wp2
              go_roundw
              case rel =>
                refine ⟨pos + n, i, k, Ls.upd f i v, rfl, Lib.hid ⟨?_, HD.out.2.2, ?_, ?_, ?_, hi2, ?_, ?_, .inr ⟨by have := HD.out.2.1; omega, ?_⟩⟩⟩
                · exact iter_set HS.out.1 _ (by show w.heap.size + 3 ≠ w.heap.size + 2; omega) _
                · exact HS.out.2.1.other (by show ¬ w.heap.size = w.heap.size + 2; omega) _
                · exact HS.out.2.2.1.other (by show ¬ w.heap.size + 1 = w.heap.size + 2; omega) _
                · exact num_set HS.out.2.2.2.1 hi2 v
                · intro j
                  unfold Ls.upd
                  split
                  · have h1 := HO.out
                    have h2 := HW.out.bd i
                    have h3 := HVV.out
                    obtain ⟨o1, o2, o3⟩ := h1
                    omega
                  · exact HW.out.bd j
                · exact HS.out.2.2.2.2.setCell (p := ⟨w.heap.size + 2, i, none⟩) (by show w.heap.size ≤ w.heap.size + 2; omega) _
                · rw [← HVV.out]
                  exact rune_dig HV.out.2 hp HD.out.1 HW.out.bd HO.out
              case measure =>
                have e1 := iter_pos (iter_set HS.out.1 ⟨w.heap.size + 1 + 1, i, none⟩ (by show w.heap.size + 3 ≠ w.heap.size + 1 + 1; omega) (.int .i64 v))
                have e2 := HPP.out
                have e3 := HD.out.2.1
                omega
            · have HN := Lib.hid (rune_no HV.out.2 hp HD.out.1 HW.out.bd hi2 HC.out ho)
              unfold Panics at he
              subst he
              go_wp2
              exact ⟨rfl, HS.out.2.2.2.2, .inr ⟨rfl, HN.out⟩⟩
    · have hpe : pos = wd.length := by have := HW.out.le; omega
      have hp' : ¬ pos < (bs wd).size := by rw [bs_size]; exact hp
      have hnx : ∀ ty, (Instr.next (.pointer (some ⟨w.heap.size + 3, 0, none⟩)) true ty).run Tryd.prog wr = .ok (.tuple #[.bool false]) wr := fun ty => Lib.run_next_end_at (P := Tryd.prog) wr (w.heap.size + 3) (bs wd) pos ty HW.out.it hp'
      have hall : ∀ x, may x → word x = wd → x = ⟨k, f 0, f 1, f 2⟩ := by
        rcases HW.out.inv with h | h
        · intro x _ hx
          have : wd = [] := List.eq_nil_of_length_eq_zero (by rw [← hpe, h.1])
          rw [this] at hx
          exact absurd hx (word_ne x)
        · have := h.2
          rw [hpe] at this
          exact inv_end this
      have HA := Lib.hid hall
      have HB := Lib.hid HW.out.bel
      have HX := Lib.hid (HW.out.op)
      have HRS := Lib.hid (HW.out.res)
      have HNB := Lib.hid (HW.out.num)
      clear hp hp' hpe hall HW
      generalize f 0 = a at HA HNB ⊢
      generalize f 1 = b at HA HNB ⊢
      generalize f 2 = c at HA HNB ⊢
      have n0 := HNB.out.cel 0 _ rfl
      have n1 := HNB.out.cel 1 _ rfl
      have n2 := HNB.out.cel 2 _ rfl
      have x1 := HX.out.cel 1 _ rfl
      have x2 := HX.out.cel 2 _ rfl
      have x3 := HX.out.cel 3 _ rfl
      have y1 := HX.out.free 1
      have y2 := HX.out.free 2
      have y3 := HX.out.free 3
      have hne : ¬ w.heap.size + 1 + 1 = w.heap.size + 1 := by omega
      have hne' : ¬ w.heap.size + 1 = w.heap.size + 1 + 1 := by omega
      go_wp2
      go_region
      have HX3 := Lib.hid (((HX.out.set 1 (.int .i64 a)).set 2 (.int .i64 b)).set 3 (.int .i64 c))
      have z0 := HX3.out.cel 0 _ rfl
      have z1 := HX3.out.cel 1 _ rfl
      have z2 := HX3.out.cel 2 _ rfl
      have z3 := HX3.out.cel 3 _ rfl
      go_wp2_with fail
      have HX5 := Lib.hid (HX3.out.same (W' := (((wr.setCell ⟨w.heap.size + 1, 1, none⟩ (.int .i64 a)).setCell ⟨w.heap.size + 1, 2, none⟩ (.int .i64 b)).setCell ⟨w.heap.size + 1, 3, none⟩ (.int .i64 c)).drew) rfl (Nat.le_refl _))
      have HR5 := Lib.hid ((((HRS.out.other (p := ⟨w.heap.size + 1, 1, none⟩) (by show ¬ w.heap.size = w.heap.size + 1; omega) (.int .i64 a)).other (p := ⟨w.heap.size + 1, 2, none⟩) (by show ¬ w.heap.size = w.heap.size + 1; omega) (.int .i64 b)).other (p := ⟨w.heap.size + 1, 3, none⟩) (by show ¬ w.heap.size = w.heap.size + 1; omega) (.int .i64 c)).same (W' := (((wr.setCell ⟨w.heap.size + 1, 1, none⟩ (.int .i64 a)).setCell ⟨w.heap.size + 1, 2, none⟩ (.int .i64 b)).setCell ⟨w.heap.size + 1, 3, none⟩ (.int .i64 c)).drew) rfl (Nat.le_refl _))
      have hle : w.heap.size ≤ w.heap.size + 1 := by omega
      have HB5 : Hid (Below w.heap.size w (((wr.setCell ⟨w.heap.size + 1, 1, none⟩ (.int .i64 a)).setCell ⟨w.heap.size + 1, 2, none⟩ (.int .i64 b)).setCell ⟨w.heap.size + 1, 3, none⟩ (.int .i64 c)).drew) := Lib.hid ((((HB.out.setCell (p := ⟨w.heap.size + 1, 1, none⟩) hle (.int .i64 a)).setCell (p := ⟨w.heap.size + 1, 2, none⟩) hle (.int .i64 b)).setCell (p := ⟨w.heap.size + 1, 3, none⟩) hle (.int .i64 c)).trans ⟨rfl, rfl, rfl, Nat.le_refl _, fun _ _ => rfl⟩)
      have HWD : ∀ W, Tb W → Calls Tryd.prog 10 #[.agg #[.int .i64 k, .int .i64 a, .int .i64 b, .int .i64 c]] W (WOut W ⟨k, a, b, c⟩) := fun W h => word_any ⟨k, a, b, c⟩ W h
      have HWW := Lib.hid HWD
      clear n0 n1 n2 x1 x2 x3 y1 y2 y3 z0 z1 z2 z3 hle HX HRS HB HX3 HWD hnx hne hne' HNB
      generalize (((wr.setCell ⟨w.heap.size + 1, 1, none⟩ (.int .i64 a)).setCell ⟨w.heap.size + 1, 2, none⟩ (.int .i64 b)).setCell ⟨w.heap.size + 1, 3, none⟩ (.int .i64 c)).drew = w5 at HX5 HR5 HB5 ⊢
      refine (HWW.out _ (HT.out.next HB5.out)).mono ?_
      rintro e w6 ⟨rfl, hb6⟩
      have HX6 := Lib.hid (HX5.out.next hb6)
      have HR6 := Lib.hid (HR5.out.next hb6)
      have HB6 := Lib.hid (HB5.out.trans (hb6.mono HB5.out.size))
      clear hb6 HX5 HR5 HB5 HWW
      by_cases hmy : may ⟨k, a, b, c⟩
      · have HM := Lib.hid hmy
        rw [(word_yes hmy).1, (word_yes hmy).2]
        clear hmy
        by_cases hw : word ⟨k, a, b, c⟩ = wd
        · rw [hw]
          have HW := Lib.hid hw
          clear hw
          have z0 := HX6.out.cel 0 _ rfl
          have z1 := HX6.out.cel 1 _ rfl
          have z2 := HX6.out.cel 2 _ rfl
          have z3 := HX6.out.cel 3 _ rfl
          have r0 := HR6.out.cel 0 _ rfl
          have r1 := HR6.out.cel 1 _ rfl
          have r2 := HR6.out.cel 2 _ rfl
          have r3 := HR6.out.cel 3 _ rfl
          have m0 := HR6.out.free 0
          have m1 := HR6.out.free 1
          have m2 := HR6.out.free 2
          have m3 := HR6.out.free 3
          have rl := HR6.out.lt
          go_wp2
          have HR7 := Lib.hid ((((HR6.out.set 0 (.int .i64 k)).set 1 (.int .i64 a)).set 2 (.int .i64 b)).set 3 (.int .i64 c))
          have c0 := HR7.out.cel 0 _ rfl
          have c1 := HR7.out.cel 1 _ rfl
          have c2 := HR7.out.cel 2 _ rfl
          have c3 := HR7.out.cel 3 _ rfl
          refine bodyPost_ret (v := opv ⟨k, a, b, c⟩) (by simp [results, Tryd.results34, go_sem, opv, c0, c1, c2, c3]) rfl ⟨?_, .inl ⟨⟨k, a, b, c⟩, HM.out, HW.out, rfl⟩⟩
          exact ((((HB6.out.setCell (p := ⟨w.heap.size, 0, none⟩) (Nat.le_refl _) _).setCell (p := ⟨w.heap.size, 1, none⟩) (Nat.le_refl _) _).setCell (p := ⟨w.heap.size, 2, none⟩) (Nat.le_refl _) _).setCell (p := ⟨w.heap.size, 3, none⟩) (Nat.le_refl _) _)
        · have hnb : ((bs (word ⟨k, a, b, c⟩)).toList == (bs wd).toList) = false := by rw [bs_eql]; exact decide_eq_false hw
          have HN := Lib.hid (noop_end HA.out (fun h => hw h.2))
          clear hw
          go_wp2
          exact ⟨rfl, HB6.out, .inr ⟨rfl, HN.out⟩⟩
      · rw [(word_no hmy).1, (word_no hmy).2]
        have HN := Lib.hid (noop_end HA.out (fun h => hmy h.1))
        clear hmy
        go_wp2
        exact ⟨rfl, HB6.out, .inr ⟨rfl, HN.out⟩⟩
end Go.Proofs.YtggjkagcnhhkjaaDoor.Cd
