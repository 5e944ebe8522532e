/-
  A region 'y, f := heap.Head(h, used[i])': what has been carried out, in whatever order.
-/
import Derived.Test.YtodpciodongajaaDoorHpInv
import Derived.Test.YtodpciodongajaaDoorHpKeep
namespace Go.Proofs.YtodpciodongajaaDoor
open Go.RowKit
set_option maxRecDepth 100000

structure RSt (wr wc : World) (l : Nat → Bool) (x13 x14 x48 x49 x50 x51 x52 x53 x54 x55 x56 : Value) (HV A kV pV yV : Value) (v0 v1 v2 : Bool) (v3 v4 v5 : Int) (b9 : Nat) : Prop where
  bel : Below wr.heap.size wr wc
  s0 : l 0 = true → x49 = HV
  s1 : l 1 = true → x50 = A
  s2 : l 2 = true → x51 = kV
  s3 : l 3 = true → x52 = pV
  s4 : l 4 = true → x53 = yV
  s5 : l 5 = true → x54 = (.tuple #[(.agg #[.bool v0, .bool v1, .bool v2, .int .i64 v3, .int .i64 v4, .int .i64 v5]), .int .i64 0])
  s6 : l 6 = true → x48 = (.tuple #[(.agg #[.bool v0, .bool v1, .bool v2, .int .i64 v3, .int .i64 v4, .int .i64 v5]), .int .i64 0])
  s7 : l 7 = true → x55 = (.agg #[.bool v0, .bool v1, .bool v2, .int .i64 v3, .int .i64 v4, .int .i64 v5])
  s8 : l 8 = true → x56 = .int .i64 0
  s9 : l 9 = true → x13 = .pointer (some ⟨b9, 0, none⟩) ∧ wr.heap.size ≤ b9 ∧ (if l 10 = true then X6 wc b9 v0 v1 v2 v3 v4 v5 else XBox wc b9)
  s11 : l 11 = true → x14 = .int .i64 0
  o10 : l 10 = true → l 9 = true ∧ l 5 = true
section
variable {wr wc wc' : World} {l : Nat → Bool} {x13 x14 x48 x49 x50 x51 x52 x53 x54 x55 x56 : Value} {HV A kV pV yV : Value} {v0 v1 v2 : Bool} {v3 v4 v5 : Int} {b9 : Nat}
theorem RSt.start (x13 x14 x48 x49 x50 x51 x52 x53 x54 x55 x56 : Value) : RSt wr wr.drew (fun _ => false) x13 x14 x48 x49 x50 x51 x52 x53 x54 x55 x56 HV A kV pV yV v0 v1 v2 v3 v4 v5 0 :=
  ⟨below_drew0 wr, (fun h => by cases h), (fun h => by cases h), (fun h => by cases h), (fun h => by cases h), (fun h => by cases h), (fun h => by cases h), (fun h => by cases h), (fun h => by cases h), (fun h => by cases h), (fun h => by cases h), (fun h => by cases h), (fun h => by cases h)⟩
theorem RSt.did0 (h : RSt wr wc l x13 x14 x48 x49 x50 x51 x52 x53 x54 x55 x56 HV A kV pV yV v0 v1 v2 v3 v4 v5 b9) : RSt wr wc (Ls.upd l 0 true) x13 x14 x48 HV x50 x51 x52 x53 x54 x55 x56 HV A kV pV yV v0 v1 v2 v3 v4 v5 b9 := ⟨h.bel, fun _ => rfl, h.s1, h.s2, h.s3, h.s4, h.s5, h.s6, h.s7, h.s8, h.s9, h.s11, h.o10⟩
theorem RSt.did1 (h : RSt wr wc l x13 x14 x48 x49 x50 x51 x52 x53 x54 x55 x56 HV A kV pV yV v0 v1 v2 v3 v4 v5 b9) : RSt wr wc (Ls.upd l 1 true) x13 x14 x48 x49 A x51 x52 x53 x54 x55 x56 HV A kV pV yV v0 v1 v2 v3 v4 v5 b9 := ⟨h.bel, h.s0, fun _ => rfl, h.s2, h.s3, h.s4, h.s5, h.s6, h.s7, h.s8, h.s9, h.s11, h.o10⟩
theorem RSt.did2 (h : RSt wr wc l x13 x14 x48 x49 x50 x51 x52 x53 x54 x55 x56 HV A kV pV yV v0 v1 v2 v3 v4 v5 b9) : RSt wr wc (Ls.upd l 2 true) x13 x14 x48 x49 x50 kV x52 x53 x54 x55 x56 HV A kV pV yV v0 v1 v2 v3 v4 v5 b9 := ⟨h.bel, h.s0, h.s1, fun _ => rfl, h.s3, h.s4, h.s5, h.s6, h.s7, h.s8, h.s9, h.s11, h.o10⟩
theorem RSt.did3 (h : RSt wr wc l x13 x14 x48 x49 x50 x51 x52 x53 x54 x55 x56 HV A kV pV yV v0 v1 v2 v3 v4 v5 b9) : RSt wr wc (Ls.upd l 3 true) x13 x14 x48 x49 x50 x51 pV x53 x54 x55 x56 HV A kV pV yV v0 v1 v2 v3 v4 v5 b9 := ⟨h.bel, h.s0, h.s1, h.s2, fun _ => rfl, h.s4, h.s5, h.s6, h.s7, h.s8, h.s9, h.s11, h.o10⟩
theorem RSt.did4 (h : RSt wr wc l x13 x14 x48 x49 x50 x51 x52 x53 x54 x55 x56 HV A kV pV yV v0 v1 v2 v3 v4 v5 b9) : RSt wr wc (Ls.upd l 4 true) x13 x14 x48 x49 x50 x51 x52 yV x54 x55 x56 HV A kV pV yV v0 v1 v2 v3 v4 v5 b9 := ⟨h.bel, h.s0, h.s1, h.s2, h.s3, fun _ => rfl, h.s5, h.s6, h.s7, h.s8, h.s9, h.s11, h.o10⟩
theorem RSt.did6 (h : RSt wr wc l x13 x14 x48 x49 x50 x51 x52 x53 x54 x55 x56 HV A kV pV yV v0 v1 v2 v3 v4 v5 b9) : RSt wr wc (Ls.upd l 6 true) x13 x14 (.tuple #[(.agg #[.bool v0, .bool v1, .bool v2, .int .i64 v3, .int .i64 v4, .int .i64 v5]), .int .i64 0]) x49 x50 x51 x52 x53 x54 x55 x56 HV A kV pV yV v0 v1 v2 v3 v4 v5 b9 := ⟨h.bel, h.s0, h.s1, h.s2, h.s3, h.s4, h.s5, fun _ => rfl, h.s7, h.s8, h.s9, h.s11, h.o10⟩
theorem RSt.did7 (h : RSt wr wc l x13 x14 x48 x49 x50 x51 x52 x53 x54 x55 x56 HV A kV pV yV v0 v1 v2 v3 v4 v5 b9) : RSt wr wc (Ls.upd l 7 true) x13 x14 x48 x49 x50 x51 x52 x53 x54 (.agg #[.bool v0, .bool v1, .bool v2, .int .i64 v3, .int .i64 v4, .int .i64 v5]) x56 HV A kV pV yV v0 v1 v2 v3 v4 v5 b9 := ⟨h.bel, h.s0, h.s1, h.s2, h.s3, h.s4, h.s5, h.s6, fun _ => rfl, h.s8, h.s9, h.s11, h.o10⟩
theorem RSt.did8 (h : RSt wr wc l x13 x14 x48 x49 x50 x51 x52 x53 x54 x55 x56 HV A kV pV yV v0 v1 v2 v3 v4 v5 b9) : RSt wr wc (Ls.upd l 8 true) x13 x14 x48 x49 x50 x51 x52 x53 x54 x55 (.int .i64 0) HV A kV pV yV v0 v1 v2 v3 v4 v5 b9 := ⟨h.bel, h.s0, h.s1, h.s2, h.s3, h.s4, h.s5, h.s6, h.s7, fun _ => rfl, h.s9, h.s11, h.o10⟩
theorem RSt.did11 (h : RSt wr wc l x13 x14 x48 x49 x50 x51 x52 x53 x54 x55 x56 HV A kV pV yV v0 v1 v2 v3 v4 v5 b9) : RSt wr wc (Ls.upd l 11 true) x13 (.int .i64 0) x48 x49 x50 x51 x52 x53 x54 x55 x56 HV A kV pV yV v0 v1 v2 v3 v4 v5 b9 := ⟨h.bel, h.s0, h.s1, h.s2, h.s3, h.s4, h.s5, h.s6, h.s7, h.s8, h.s9, fun _ => rfl, h.o10⟩
theorem RSt.did5 (h : RSt wr wc l x13 x14 x48 x49 x50 x51 x52 x53 x54 x55 x56 HV A kV pV yV v0 v1 v2 v3 v4 v5 b9) (hl : l 10 = false) (hb : Below wc.heap.size wc wc') : RSt wr wc' (Ls.upd l 5 true) x13 x14 x48 x49 x50 x51 x52 x53 (.tuple #[(.agg #[.bool v0, .bool v1, .bool v2, .int .i64 v3, .int .i64 v4, .int .i64 v5]), .int .i64 0]) x55 x56 HV A kV pV yV v0 v1 v2 v3 v4 v5 b9 := ⟨h.bel.trans (hb.mono h.bel.size), h.s0, h.s1, h.s2, h.s3, h.s4, fun _ => rfl, h.s6, h.s7, h.s8, fun h9 => ⟨(h.s9 h9).1, (h.s9 h9).2.1, by
    have h1 := (h.s9 h9).2.2
    rw [if_neg (by rw [hl]; decide)] at h1
    rw [if_neg (by show ¬ l 10 = true; rw [hl]; decide)]
    exact h1.next hb⟩, h.s11, fun h10 => absurd h10 (by show ¬ l 10 = true; rw [hl]; decide)⟩
theorem RSt.did9 (h : RSt wr wc l x13 x14 x48 x49 x50 x51 x52 x53 x54 x55 x56 HV A kV pV yV v0 v1 v2 v3 v4 v5 b9) (hl : l 10 = false) (ty : TypeId) : RSt wr (wc.alloc (.cells #[.bool false, .bool false, .bool false, .int .i64 0, .int .i64 0, .int .i64 0] ty)) (Ls.upd l 9 true) (.pointer (some ⟨wc.heap.size, 0, none⟩)) x14 x48 x49 x50 x51 x52 x53 x54 x55 x56 HV A kV pV yV v0 v1 v2 v3 v4 v5 wc.heap.size := ⟨h.bel.alloc h.bel.size _, h.s0, h.s1, h.s2, h.s3, h.s4, h.s5, h.s6, h.s7, h.s8, fun _ => ⟨rfl, h.bel.size, by
    rw [if_neg (by show ¬ l 10 = true; rw [hl]; decide)]
    exact XBox.new wc ty⟩, h.s11, fun h10 => absurd h10 (by show ¬ l 10 = true; rw [hl]; decide)⟩
theorem RSt.did10 (h : RSt wr wc l x13 x14 x48 x49 x50 x51 x52 x53 x54 x55 x56 HV A kV pV yV v0 v1 v2 v3 v4 v5 b9) (hl : l 10 = false) (h9 : l 9 = true) (h5 : l 5 = true) : RSt wr ((((((wc.setCell ⟨b9, 0, none⟩ (.bool v0)).setCell ⟨b9, 1, none⟩ (.bool v1)).setCell ⟨b9, 2, none⟩ (.bool v2)).setCell ⟨b9, 3, none⟩ (.int .i64 v3)).setCell ⟨b9, 4, none⟩ (.int .i64 v4)).setCell ⟨b9, 5, none⟩ (.int .i64 v5)) (Ls.upd l 10 true) x13 x14 x48 x49 x50 x51 x52 x53 x54 x55 x56 HV A kV pV yV v0 v1 v2 v3 v4 v5 b9 := ⟨below_put6 h.bel (h.s9 h9).2.1 _ _ _ _ _ _, h.s0, h.s1, h.s2, h.s3, h.s4, h.s5, h.s6, h.s7, h.s8, fun _ => ⟨(h.s9 h9).1, (h.s9 h9).2.1, by
    have h1 := (h.s9 h9).2.2
    rw [if_neg (by rw [hl]; decide)] at h1
    rw [if_pos (show Ls.upd l 10 true 10 = true from rfl)]
    exact x6_put h1 v0 v1 v2 v3 v4 v5⟩, h.s11, fun _ => ⟨h9, h5⟩⟩
end
def KAPut (a : Act) (x13 x14 x48 x49 x50 x51 x52 x53 x54 x55 x56 : Value) : Act := (((((((((((a.put (some 13) x13).put (some 14) x14).put (some 48) x48).put (some 49) x49).put (some 50) x50).put (some 51) x51).put (some 52) x52).put (some 53) x53).put (some 54) x54).put (some 55) x55).put (some 56) x56)
def KAInv (wr : World) (HV A kV pV yV : Value) (v0 v1 v2 : Bool) (v3 v4 v5 : Int) (a0 : Act) (l : Nat → Bool) (a : Act) (wc : World) : Prop :=
  ∃ x13 x14 x48 x49 x50 x51 x52 x53 x54 x55 x56 b9, a = KAPut a0 x13 x14 x48 x49 x50 x51 x52 x53 x54 x55 x56 ∧ RSt wr wc l x13 x14 x48 x49 x50 x51 x52 x53 x54 x55 x56 HV A kV pV yV v0 v1 v2 v3 v4 v5 b9
def KBPut (a : Act) (x13 x14 x48 x49 x50 x51 x52 x53 x54 x55 x56 : Value) : Act := (((((((((((a.put (some 15) x13).put (some 16) x14).put (some 57) x48).put (some 58) x49).put (some 59) x50).put (some 60) x51).put (some 61) x52).put (some 62) x53).put (some 63) x54).put (some 64) x55).put (some 65) x56)
def KBInv (wr : World) (HV A kV pV yV : Value) (v0 v1 v2 : Bool) (v3 v4 v5 : Int) (a0 : Act) (l : Nat → Bool) (a : Act) (wc : World) : Prop :=
  ∃ x13 x14 x48 x49 x50 x51 x52 x53 x54 x55 x56 b9, a = KBPut a0 x13 x14 x48 x49 x50 x51 x52 x53 x54 x55 x56 ∧ RSt wr wc l x13 x14 x48 x49 x50 x51 x52 x53 x54 x55 x56 HV A kV pV yV v0 v1 v2 v3 v4 v5 b9
end Go.Proofs.YtodpciodongajaaDoor
