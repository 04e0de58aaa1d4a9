/-
  Of any seat with values: a value among the arguments, opened, and shut.
-/
import Derived.Test.YtgakcpcpfkoaiaaVaMath
import Derived.WalkKit
import Derived.ProofKit
import Derived.Lib.SmallJoins
import Derived.OpenShut
import Derived.ShutString
namespace Go.Proofs.Ytgakcpcpfkoaiaa.Va
open Go.ChangeShapes Go.WideShapes Go.ChangeAt Go.RowKit Go.Proofs.Ytgakcpcpfkoaiaa.Ov Go.Proofs.Ytgakcpcpfkoaiaa.Tp
section
variable {H : Type} {enc : TypeId × Value → H} {w : World} {base : Nat} {spare : Nat → Bool} {held : Bool}
set_option maxRecDepth 100000 in
/-- A value among the arguments, opened. -/
theorem val_of {r : Reach} {b0 : Nat} {v : Value} {d : DataW H} {p : List MemPlace} (hv : Value.okWide Try.prog w r b0 42 v) (h : DataW.Trod enc Try.prog w base spare held 42 v d p) :
    ∃ (k n : Int) (s : ByteArray) (x y : Int), v = .agg #[.int .i64 k, .int .i64 n, .string s, .int .i64 x, .int .i64 y] ∧
      d = .agg [.lit (.int .i64 k), .lit (.int .i64 n), .lit (.string s.data.toList), .agg [.lit (.int .i64 x), .lit (.int .i64 y)]] ∧ p = [] ∧
      (Lit.int .i64 k).wf = true ∧ (Lit.int .i64 n).wf = true ∧ s.size ≤ maxLen ∧ (Lit.int .i64 x).wf = true ∧ (Lit.int .i64 y).wf = true := by
  have c1 : Try.prog.cellsOf 3 = 1 := by kernel_rfl
  have c2 : Try.prog.cellsOf 9 = 1 := by kernel_rfl
  have c3 : Try.prog.cellsOf 40 = 2 := by kernel_rfl
  obtain ⟨cs, rfl, hsz⟩ := okWide_struct Try.underlying42 hv
  have hC : Try.prog.cellsOf 42 = 5 := by kernel_rfl
  obtain ⟨l⟩ := cs
  match l, hsz.trans hC with
  | [a0, a1, a2, a3, a4], _ =>
    obtain ⟨fuel, hf⟩ := h
    obtain ⟨y0, y1, y2, y3, m, hx, _, h0, h1, h2, h3⟩ := Joins.trod_struct4 Try.underlying42 hf
    simp only [Prod.mk.injEq] at hx
    simp only [c1, c2, c3, Value.cells] at h0 h1 h2 h3
    obtain ⟨k, e0, rfl, w0⟩ := DataW.trod_int Try.underlying3 h0
    obtain ⟨n, e1, rfl, w1⟩ := DataW.trod_int Try.underlying3 h1
    obtain ⟨s, e2, rfl, w2⟩ := DataW.trod_string Try.underlying9 h2
    obtain ⟨z0, z1, m', hz, _, g0, g1⟩ := trod_struct2 Try.underlying40 h3
    simp only [c1] at g0 g1
    obtain ⟨x, f0, rfl, u0⟩ := DataW.trod_int Try.underlying3 g0
    obtain ⟨y, f1, rfl, u1⟩ := DataW.trod_int Try.underlying3 g1
    have e3 : [a0] = [Value.int .i64 k] := e0
    have e4 : [a1] = [Value.int .i64 n] := e1
    have e5 : [a2] = [Value.string s] := e2
    have e6 : [a3] = [Value.int .i64 x] := f0
    have e7 : [a4] = [Value.int .i64 y] := f1
    obtain rfl : a0 = .int .i64 k := by simpa using e3
    obtain rfl : a1 = .int .i64 n := by simpa using e4
    obtain rfl : a2 = .string s := by simpa using e5
    obtain rfl : a3 = .int .i64 x := by simpa using e6
    obtain rfl : a4 = .int .i64 y := by simpa using e7
    subst hz
    exact ⟨k, n, s, x, y, rfl, hx.1, by simpa using hx.2, w0, w1, w2, u0, u1⟩
set_option maxRecDepth 100000 in
/-- And shut. -/
theorem shut_val {k n x y : Int} {s : ByteArray} (w0 : (Lit.int .i64 k).wf = true) (w1 : (Lit.int .i64 n).wf = true) (w2 : s.size ≤ maxLen) (w3 : (Lit.int .i64 x).wf = true) (w4 : (Lit.int .i64 y).wf = true) :
    DataW.Trod enc Try.prog w base spare held 42 (.agg #[.int .i64 k, .int .i64 n, .string s, .int .i64 x, .int .i64 y]) (.agg [.lit (.int .i64 k), .lit (.int .i64 n), .lit (.string s.data.toList), .agg [.lit (.int .i64 x), .lit (.int .i64 y)]]) [] := by
  have c1 : Try.prog.cellsOf 3 = 1 := by kernel_rfl
  have c2 : Try.prog.cellsOf 9 = 1 := by kernel_rfl
  have c3 : Try.prog.cellsOf 40 = 2 := by kernel_rfl
  have c4 : Try.prog.cellsOf 42 = 5 := by kernel_rfl
  have hs : DataW.trod enc Try.prog w base spare held 2 9 [.string s] = some (.lit (.string s.data.toList), []) := by simp [DataW.trod, Try.underlying9, w2]
  have hp := trod_struct2_mk (enc := enc) (P := Try.prog) (w := w) (base := base) (spare := spare) (held := held) (n := 1) (cs := [.int .i64 x, .int .i64 y]) (y0 := (.lit (.int .i64 x), [])) (y1 := (.lit (.int .i64 y), []))
    Try.underlying40 (by simp [c3]) (by simp only [c1]; exact trod_int_mk 0 Try.underlying3 w3) (by simp only [c1]; exact trod_int_mk 0 Try.underlying3 w4)
  have ht := Joins.trod_struct4_mk (enc := enc) (P := Try.prog) (w := w) (base := base) (spare := spare) (held := held) (n := 2) (cs := [.int .i64 k, .int .i64 n, .string s, .int .i64 x, .int .i64 y])
    (y0 := (.lit (.int .i64 k), [])) (y1 := (.lit (.int .i64 n), [])) (y2 := (.lit (.string s.data.toList), [])) (y3 := (.agg [.lit (.int .i64 x), .lit (.int .i64 y)], []))
    Try.underlying42 (by simp [c4]) (by simp only [c1]; exact trod_int_mk 1 Try.underlying3 w0) (by simp only [c1]; exact trod_int_mk 1 Try.underlying3 w1) (by simp only [c2]; exact hs)
    (by simp only [c3]; simpa using hp)
  exact ⟨_, by simpa [Value.cells] using ht⟩
end
end Go.Proofs.Ytgakcpcpfkoaiaa.Va
