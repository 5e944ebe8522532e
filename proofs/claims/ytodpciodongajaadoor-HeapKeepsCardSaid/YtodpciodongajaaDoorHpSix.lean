/-
  A head that comes in: three bools and three numbers, and how it reads behind the call.
-/
import Derived.Test.YtodpciodongajaaDoorRows
import Derived.WalkKit
import Derived.ProofKit
import Derived.OpenShut
import Derived.Deep.Fields
namespace Go.Proofs.YtodpciodongajaaDoor
open Go.ChangeShapes Go.WideShapes Go.ChangeAt Go.RowKit Go.Deep

theorem cellsHead : Tryd.prog.cellsOf 34 = 6 := by kernel_rfl
section
variable {H : Type} {enc : TypeId × Value → H} {P : Program} {w : World} {base : Nat} {spare : Nat → Bool} {held : Bool}

/-- A struct of three bools and three numbers, taken apart. -/
theorem six_open {r : Reach} {b0 : Nat} {t tb ti : TypeId} {f0 f1 f2 f3 f4 f5 : Field} {v : Value} {d : DataW H} {p : List MemPlace} (hs : P.underlying t = some (.struct #[f0, f1, f2, f3, f4, f5])) (ct : P.cellsOf t = 6)
    (hone : oneCellFields P #[f0, f1, f2, f3, f4, f5] = true) (ht : [f0.type, f1.type, f2.type, f3.type, f4.type, f5.type] = [tb, tb, tb, ti, ti, ti])
    (hb : P.underlying tb = some .bool) (hi : P.underlying ti = some (.int .i64)) (hv : Value.okWide P w r b0 t v) (h : DataW.Trod enc P w base spare held t v d p) :
    ∃ (u o e : Bool) (n b m : Int), v = .agg #[.bool u, .bool o, .bool e, .int .i64 n, .int .i64 b, .int .i64 m] ∧
      d = .agg [.lit (.bool u), .lit (.bool o), .lit (.bool e), .lit (.int .i64 n), .lit (.int .i64 b), .lit (.int .i64 m)] ∧ p = [] ∧
      (Lit.int .i64 n).wf = true ∧ (Lit.int .i64 b).wf = true ∧ (Lit.int .i64 m).wf = true := by
  simp only [List.cons.injEq, and_true] at ht
  obtain ⟨t0, t1, t2, t3, t4, t5⟩ := ht
  obtain ⟨⟨l⟩, rfl, hsz⟩ := okWide_struct hs hv
  obtain ⟨fuel, hf⟩ := h
  obtain ⟨xs, k, _, hx, hl, hlen, hg⟩ := DataW.trod_struct hs hf
  have hl6 : l.length = 6 := by simpa [ct] using hsz
  have field : ∀ (i : Nat) (f : Field), (#[f0, f1, f2, f3, f4, f5] : Array Field)[i]? = some f → DataW.trod enc P w base spare held k f.type ((l.drop i).take 1) = xs[i]? := by
    intro i f hif
    have hfo := hone_of hone i f hif
    have := hg i f hif
    rw [hfo.1, hfo.2] at this
    exact this
  match l, hl6, xs, hlen with
  | [c0, c1, c2, c3, c4, c5], _, [y0, y1, y2, y3, y4, y5], _ =>
    obtain ⟨u, e0, rfl⟩ := DataW.trod_bool hb (by have := field 0 f0 rfl; rw [t0] at this; exact this)
    obtain ⟨o, e1, rfl⟩ := DataW.trod_bool hb (by have := field 1 f1 rfl; rw [t1] at this; exact this)
    obtain ⟨e, e2, rfl⟩ := DataW.trod_bool hb (by have := field 2 f2 rfl; rw [t2] at this; exact this)
    obtain ⟨n, e3, rfl, w3⟩ := DataW.trod_int hi (by have := field 3 f3 rfl; rw [t3] at this; exact this)
    obtain ⟨b, e4, rfl, w4⟩ := DataW.trod_int hi (by have := field 4 f4 rfl; rw [t4] at this; exact this)
    obtain ⟨m, e5, rfl, w5⟩ := DataW.trod_int hi (by have := field 5 f5 rfl; rw [t5] at this; exact this)
    simp at e0 e1 e2 e3 e4 e5
    subst e0 e1 e2 e3 e4 e5
    simp at hx
    exact ⟨u, o, e, n, b, m, rfl, hx.1, hx.2, w3, w4, w5⟩

/-- .. and read again, wherever. -/
theorem six_shut {t tb ti : TypeId} {f0 f1 f2 f3 f4 f5 : Field} (hs : P.underlying t = some (.struct #[f0, f1, f2, f3, f4, f5])) (ct : P.cellsOf t = 6)
    (hone : oneCellFields P #[f0, f1, f2, f3, f4, f5] = true) (ht : [f0.type, f1.type, f2.type, f3.type, f4.type, f5.type] = [tb, tb, tb, ti, ti, ti])
    (hb : P.underlying tb = some .bool) (hi : P.underlying ti = some (.int .i64)) (u o e : Bool) (n b m : Int)
    (wn : (Lit.int .i64 n).wf = true) (wb : (Lit.int .i64 b).wf = true) (wm : (Lit.int .i64 m).wf = true) :
    DataW.Trod enc P w base spare held t (.agg #[.bool u, .bool o, .bool e, .int .i64 n, .int .i64 b, .int .i64 m]) (.agg [.lit (.bool u), .lit (.bool o), .lit (.bool e), .lit (.int .i64 n), .lit (.int .i64 b), .lit (.int .i64 m)]) [] := by
  simp only [List.cons.injEq, and_true] at ht
  obtain ⟨t0, t1, t2, t3, t4, t5⟩ := ht
  obtain ⟨o0, k0⟩ := hone_of hone 0 f0 rfl
  obtain ⟨o1, k1⟩ := hone_of hone 1 f1 rfl
  obtain ⟨o2, k2⟩ := hone_of hone 2 f2 rfl
  obtain ⟨o3, k3⟩ := hone_of hone 3 f3 rfl
  obtain ⟨o4, k4⟩ := hone_of hone 4 f4 rfl
  obtain ⟨o5, k5⟩ := hone_of hone 5 f5 rfl
  rw [t0] at k0
  rw [t1] at k1
  rw [t2] at k2
  rw [t3] at k3
  rw [t4] at k4
  rw [t5] at k5
  have hm := trod_struct_mk (enc := enc) (w := w) (base := base) (spare := spare) (held := held) (n := 1) (cs := [.bool u, .bool o, .bool e, .int .i64 n, .int .i64 b, .int .i64 m])
    (xs := [(.lit (.bool u), []), (.lit (.bool o), []), (.lit (.bool e), []), (.lit (.int .i64 n), []), (.lit (.int .i64 b), []), (.lit (.int .i64 m), [])]) hs (by rw [ct]; rfl)
    (by simp [t0, t1, t2, t3, t4, t5, o0, o1, o2, o3, o4, o5, k0, k3, DataW.trod, hb, hi, wn, wb, wm])
  exact ⟨2, by simpa [Value.cells] using hm⟩
end
end Go.Proofs.YtodpciodongajaaDoor
