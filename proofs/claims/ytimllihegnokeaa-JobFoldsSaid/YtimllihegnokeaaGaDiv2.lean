/-
  Div, where there is a quotient.
-/
import Derived.Test.YtimllihegnokeaaGaTurn
namespace Go.Proofs.Ytimllihegnokeaa.Ga
open Go.ChangeShapes Go.WideShapes Go.ChangeAt Go.RowKit Go.Proofs.Ytimllihegnokeaa.Ov

theorem not_zero {u v : Int} (h : (⟨u, v⟩ : Pt) ≠ Pt.zero) : (u == 0) = false ∨ ((u == 0) = true ∧ (v == 0) = false) := by
  by_cases hu : u = 0
  · exact .inr ⟨beq_iff_eq.2 hu, beq_eq_false_iff_ne.2 fun hv => h (Pt.ext hu hv)⟩
  · exact .inl (beq_eq_false_iff_ne.2 hu)
end Go.Proofs.Ytimllihegnokeaa.Ga
