/-
  A text's operations, or that there are none: code.Parse, by the function that it defers.
-/
import Derived.Test.YtggjkagcnhhkjaaDoorCdRead
import Derived.Recover
import Derived.Laws.Pointers
namespace Go.Proofs.YtggjkagcnhhkjaaDoor.Cd
open Go.Proofs.YtggjkagcnhhkjaaDoor Go.Proofs.YtggjkagcnhhkjaaDoor.Rt
open Go.RowKit
set_option maxRecDepth 100000

theorem tmps_catch (p q : Value) : (#[p, q] ++ Array.replicate (Tryd.f25.ntmps - (#[p, q] : Array Value).size) undef) = #[p, q, undef, undef, undef, undef, undef, undef, undef, undef, undef] := by
  rw [Tryd.ntmps25]
  rfl
theorem assert_nil (w : World) : Sem.run Tryd.prog (Instr.typeAssert Value.nilIface 20 24 true) w = .ok (.tuple #[.int .i64 0, .bool false]) w := by kernel_rfl
theorem assert_err (n : Int) (w : World) : Sem.run Tryd.prog (Instr.typeAssert (.iface 24 (.int .i64 n)) 20 24 true) w = .ok (.tuple #[.int .i64 n, .bool true]) w := by kernel_rfl
/-- The deferred function, where nothing is wrong; where an error's number was told. -/
theorem catch_idle (p q : Addr) (w : World) : CallsD Tryd.prog 25 #[.pointer (some p), .pointer (some q)] .returning w fun e u' w' => e = .returned (.tuple #[]) ∧ u' = .returning ∧ w' = w := by
  refine callsD_of_wpS Tryd.func25 rfl fun c₀ cs hu => ?_
  rw [tmps_catch]
  apply wpS_seq
  apply wpS_region
  simp [wpOpsS, go_sem, recoverD, hu, Exit.thenS, assert_nil]
  apply wpS_seq
  apply wpS_region
  simp [wpOpsS, go_sem, Exit.thenS]
  refine wpS_cond (t := false) (by simp [Act.eval]) ?_
  simp only [Bool.false_eq_true, if_false]
  refine wpS_of_wp (wp_skip ?_)
  cases c₀
  simp_all [bodyPostS, results, Tryd.results25]
theorem catch_told (a b : Nat) (n : Int) (v : Value) (z : Int) (older : List PanicEntry) (w : World) (ha : Box w a [v]) (hb : Box w b [.int .i64 z]) (hne : ¬ a = b) :
    CallsD Tryd.prog 25 #[.pointer (some ⟨a, 0, none⟩), .pointer (some ⟨b, 0, none⟩)] (.panicking ({ v := .iface 24 (.int .i64 n), recovered := false } :: older)) w fun e u' w' =>
      e = .returned (.tuple #[]) ∧ u' = .panicking ({ v := .iface 24 (.int .i64 n), recovered := true } :: older) ∧ w' = (w.setCell ⟨a, 0, none⟩ (.slice none 0 0)).setCell ⟨b, 0, none⟩ (.int .i64 n) := by
  have q0 := ha.cel 0 _ rfl
  have m0 := ha.free 0
  have q1 := hb.cel 0 _ rfl
  have m1 := hb.free 0
  refine callsD_of_wpS Tryd.func25 rfl fun c₀ cs hu => ?_
  rw [tmps_catch]
  apply wpS_seq
  apply wpS_region
  simp [wpOpsS, go_sem, recoverD, hu, Exit.thenS, assert_err]
  apply wpS_seq
  apply wpS_region
  simp [wpOpsS, go_sem, Exit.thenS]
  refine wpS_cond (t := true) (by simp [Act.eval]) ?_
  simp only [if_true]
  apply wpS_region
  simp [wpOpsS, go_sem, q0, m0, q1, m1, bodyPostS, results, Tryd.results25]
/-- What a text's operations are told to be. -/
def ParOut (w : World) (L : List UInt8) (e : Ending) (w' : World) : Prop := Below w.heap.size w w' ∧ ((∃ l v, Good l L ∧ e = .returned (.tuple #[.slice v.a v.n v.c, .int .i64 0]) ∧ Rd w l v w') ∨ (e = .returned (.tuple #[.slice none 0 0, .int .i64 7]) ∧ ∀ l, ¬ Good l L))
theorem parse_any (L : List UInt8) (w : World) (hb : L.length ≤ 100000) (hT : Tb w) : Calls Tryd.prog 16 #[.string (bs L)] w (ParOut w L) := by
  have hmf : ∀ (fn : Fn) (first cap : Array Value) (w : World), (Instr.makeFunc fn first cap).run Tryd.prog w = .ok (.func fn first cap) w := fun _ _ _ _ => rfl
  have HT := Lib.hid hT
  have s1 : (w.alloc (.cells #[.slice none 0 0] 22)).heap.size = w.heap.size + 1 := by simp
  have x1 := Box.new w [.slice none 0 0] 22
  have x2 := Box.new (w.alloc (.cells #[.slice none 0 0] 22)) [.int .i64 0] 24
  rw [s1] at x2
  have HX := Lib.hid (And.intro (x1.next ((Below.refl _ _).alloc (Nat.le_refl _) (.cells [Value.int .i64 0].toArray 24))) (And.intro x2 (((Below.refl _ w).alloc (Nat.le_refl _) (.cells #[.slice none 0 0] 22)).alloc (by rw [s1]; omega) (.cells [Value.int .i64 0].toArray 24))))
  clear x1 x2 s1 hT
  go_enter_defers Tryd.func16, Tryd.ntmps16
  go_wp2_with fail
  have s2 : ((w.alloc (.cells #[.slice none 0 0] 22)).alloc (.cells #[.int .i64 0] 24)).heap.size = w.heap.size + 2 := by simp
  generalize (w.alloc (.cells #[.slice none 0 0] 22)).alloc (.cells #[.int .i64 0] 24) = w2 at HX s2 ⊢
  refine (read_any L w2 hb (HT.out.next HX.out.2.2)).mono ?_
  rintro e w3 ⟨hb3, (⟨l, v, hg, rfl, hrd⟩ | ⟨he, hno⟩)⟩
  · have H3 := Lib.hid (And.intro (HX.out.1.next hb3) (And.intro (HX.out.2.1.next hb3) (HX.out.2.2.trans (hb3.mono HX.out.2.2.size))))
    have HR := Lib.hid (And.intro hg (And.intro hrd s2))
    clear hb3 hg hrd s2
    have q0 := H3.out.1.cel 0 _ rfl
    have q1 := H3.out.2.1.cel 0 _ rfl
    have m0 := H3.out.1.free 0
    have m1 := H3.out.2.1.free 0
    have ql := H3.out.1.lt
    go_wp2
    refine leaves_cons (f := 25) (args := #[.pointer (some ⟨w.heap.size, 0, none⟩), .pointer (some ⟨w.heap.size + 1, 0, none⟩)]) (by simp) (by simp [go_sem]) ?_
    refine (catch_idle ⟨w.heap.size, 0, none⟩ ⟨w.heap.size + 1, 0, none⟩ _).mono ?_
    rintro e u' w'' ⟨rfl, rfl, rfl⟩
    have hle : w.heap.size ≤ w.heap.size + 1 := by omega
    have B1 := Lib.hid ((H3.out.1.set 0 (.slice v.a v.n v.c)).other (p := ⟨w.heap.size + 1, 0, none⟩) (by show ¬ w.heap.size = w.heap.size + 1; omega) (.int .i64 0))
    have B2 := Lib.hid ((H3.out.2.1.other (p := ⟨w.heap.size, 0, none⟩) (by show ¬ w.heap.size + 1 = w.heap.size; omega) (.slice v.a v.n v.c)).set 0 (.int .i64 0))
    have B3 := Lib.hid ((H3.out.2.2.setCell (p := ⟨w.heap.size, 0, none⟩) (Nat.le_refl _) (.slice v.a v.n v.c)).setCell (p := ⟨w.heap.size + 1, 0, none⟩) hle (.int .i64 0))
    have B4 : Hid (Rd w l v ((w3.setCell ⟨w.heap.size, 0, none⟩ (.slice v.a v.n v.c)).setCell ⟨w.heap.size + 1, 0, none⟩ (.int .i64 0))) := by
      obtain ⟨r1, r2, r3, r4, r5⟩ := HR.out.2.1
      have e2 := HR.out.2.2
      refine Lib.hid ⟨r1, (r2.same (fun hn x hx => ?_)).more (by simp [World.setCell]), r3, r4, fun hn x hx => ?_⟩
      · have h5 := r5 hn x hx
        rw [Below.heap_setCell _ _ _ _ (by show ¬ x.block = w.heap.size + 1; omega), Below.heap_setCell _ _ _ _ (by show ¬ x.block = w.heap.size; omega)]
      · have h5 := r5 hn x hx
        omega
    have c0 := B1.out.cel 0 _ rfl
    have c1 := B2.out.cel 0 _ rfl
    generalize (w3.setCell ⟨w.heap.size, 0, none⟩ (.slice v.a v.n v.c)).setCell ⟨w.heap.size + 1, 0, none⟩ (.int .i64 0) = w4 at B1 B2 B3 B4 c0 c1 ⊢
    refine ⟨.tuple #[.slice v.a v.n v.c, .int .i64 0], ?_, B3.out, .inl ⟨l, v, HR.out.1, rfl, B4.out⟩⟩
    simp [results, Tryd.results16, go_sem, c0, c1]
  · have H3 := Lib.hid (And.intro (HX.out.1.next hb3) (And.intro (HX.out.2.1.next hb3) (HX.out.2.2.trans (hb3.mono HX.out.2.2.size))))
    have HN := Lib.hid hno
    unfold Panics at he
    subst he
    clear hb3 hno s2
    go_wp2
    refine leaves_cons (f := 25) (args := #[.pointer (some ⟨w.heap.size, 0, none⟩), .pointer (some ⟨w.heap.size + 1, 0, none⟩)]) (by simp) (by simp [go_sem]) ?_
    refine (catch_told w.heap.size (w.heap.size + 1) 7 _ _ [] _ H3.out.1 H3.out.2.1 (by omega)).mono ?_
    rintro e u' w'' ⟨rfl, rfl, rfl⟩
    have hle : w.heap.size ≤ w.heap.size + 1 := by omega
    have B1 := Lib.hid ((H3.out.1.set 0 (.slice none 0 0)).other (p := ⟨w.heap.size + 1, 0, none⟩) (by show ¬ w.heap.size = w.heap.size + 1; omega) (.int .i64 7))
    have B2 := Lib.hid ((H3.out.2.1.other (p := ⟨w.heap.size, 0, none⟩) (by show ¬ w.heap.size + 1 = w.heap.size; omega) (.slice none 0 0)).set 0 (.int .i64 7))
    have B3 := Lib.hid ((H3.out.2.2.setCell (p := ⟨w.heap.size, 0, none⟩) (Nat.le_refl _) (.slice none 0 0)).setCell (p := ⟨w.heap.size + 1, 0, none⟩) hle (.int .i64 7))
    have c0 := B1.out.cel 0 _ rfl
    have c1 := B2.out.cel 0 _ rfl
    generalize (w3.setCell ⟨w.heap.size, 0, none⟩ (.slice none 0 0)).setCell ⟨w.heap.size + 1, 0, none⟩ (.int .i64 7) = w4 at B1 B2 B3 c0 c1 ⊢
    refine ⟨.tuple #[.slice none 0 0, .int .i64 7], ?_, B3.out, .inr ⟨rfl, HN.out⟩⟩
    simp [results, Tryd.results16, go_sem, c0, c1]
end Go.Proofs.YtggjkagcnhhkjaaDoor.Cd
