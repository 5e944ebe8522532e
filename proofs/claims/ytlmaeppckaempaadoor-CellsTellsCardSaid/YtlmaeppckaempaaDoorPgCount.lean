/-
  Package pages' Count, and the reference's: how many pages of a row are of a kind.
-/
import Derived.Test.YtlmaeppckaempaaDoorRows
import Derived.Test.YtlmaeppckaempaaDoorPgPlain
import Derived.WalkKit
import Derived.Below
import Derived.WalkSmall
import Derived.RegionTactic
import Derived.ChangeAlike
import Derived.Deep.QuietTactic
import Derived.BigQuiet
import Derived.WalkSpells
import Derived.Lib.Hide
namespace Go.Proofs.YtlmaeppckaempaaDoor
open Go.RowKit

theorem cnt_hit {f : Nat → Int × Int} {kind : Int} {k : Nat} (h : (f k).1 = kind) : cnt f kind (k + 1) = cnt f kind k + 1 := if_pos h
theorem cnt_miss {f : Nat → Int × Int} {kind : Int} {k : Nat} (h : (f k).1 ≠ kind) : cnt f kind (k + 1) = cnt f kind k := if_neg h

set_option maxHeartbeats 400000 in
theorem count_any (B : Nat) (A : Option Addr) (n c : Nat) (f : Nat → Int × Int) (kind : Int) (w : World) (hn : n ≤ 1000) (hr : PRow w B A n f) (hB : B ≤ w.heap.size) :
    Calls Tryd.prog 25 #[.slice A n c, .int .i64 kind] w fun e w' => e = .returned (.int .i64 (cnt f kind n)) ∧ Below w.heap.size w w' := by
  have HR := Lib.hid hr
  clear hr
  go_enter Tryd.func25, Tryd.ntmps25
  go_wp2
  go_loopw [5, 10] (fun v i wr => ∃ k : Nat, k ≤ n ∧ i = .int .i64 k ∧ v = .int .i64 (cnt f kind k) ∧ Below w.heap.size w wr) (fun _ i _ => n - (intOf i).toNat)
  case atStart => exact ⟨0, Nat.zero_le _, rfl, rfl, Below.refl _ _⟩
  case round =>
    obtain ⟨k, hk, rfl, rfl, hb⟩ := hrel
    have hd := cnt_bd f kind k
    by_cases hlt : k < n
    · obtain ⟨b, off, rfl, hbB, hc⟩ := (HR.out.over hb hB) (by omega)
      obtain ⟨c0, c1⟩ := hc k hlt
      have HB := Lib.hid hb
      have hz := hb.size
      clear hb hc
      by_cases he : (f k).1 = kind
      · have HS := Lib.hid (cnt_hit he)
        have he' : ((f k).1 == kind) = true := by simpa using he
        clear he
        go_wp2
        go_roundw
        case rel => exact ⟨k + 1, by omega, by go_num, by rw [HS.out], HB.out.alloc hz _⟩
        case measure => simp [intOf]; omega
      · have HS := Lib.hid (cnt_miss he)
        have he' : ((f k).1 == kind) = false := by simpa using he
        clear he
        go_wp2
        go_roundw
        case rel => exact ⟨k + 1, by omega, by go_num, by rw [HS.out], HB.out.alloc hz _⟩
        case measure => simp [intOf]; omega
    · go_wp2
      go_ret
      obtain rfl : k = n := by omega
      exact ⟨rfl, hb⟩

end Go.Proofs.YtlmaeppckaempaaDoor
