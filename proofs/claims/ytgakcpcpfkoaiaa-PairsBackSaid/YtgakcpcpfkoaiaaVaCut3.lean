/-
  What cutNumbers answers (written by gen_vacut3.py).
-/
import Derived.Test.YtgakcpcpfkoaiaaVaCut2
namespace Go.Proofs.Ytgakcpcpfkoaiaa.Va
open Go.ChangeShapes Go.WideShapes Go.ChangeAt Go.RowKit Go.Proofs.Ytgakcpcpfkoaiaa.Ov Go.Proofs.Ytgakcpcpfkoaiaa.Tp

/-- A value's value. -/
def vv (v : Va) : Value := .agg #[.int .i64 v.k, .int .i64 v.n, .string (tx v.s), .int .i64 v.x, .int .i64 v.y]
def prv (r : Va × Nat × Nat) : Value := .tuple #[vv r.1, .int .i64 (r.2.1 : Int), .int .i64 (r.2.2 : Int)]
theorem rt_2 (n y : Int) : rt ⟨2, 0, [], n, y⟩ = true ∨ rt ⟨2, 0, [], n, y⟩ = false := by cases rt ⟨2, 0, [], n, y⟩ <;> simp
theorem rt_0 (n : Int) : rt ⟨0, n, [], 0, 0⟩ = true ∨ rt ⟨0, n, [], 0, 0⟩ = false := by cases rt ⟨0, n, [], 0, 0⟩ <;> simp
end Go.Proofs.Ytgakcpcpfkoaiaa.Va
