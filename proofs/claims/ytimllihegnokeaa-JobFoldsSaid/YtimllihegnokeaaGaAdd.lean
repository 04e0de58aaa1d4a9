/-
  Sums and differences of points; norms, points turned about, which comes first.
-/
import Derived.Test.YtimllihegnokeaaGaSmall
namespace Go.Proofs.Ytimllihegnokeaa.Ga
open Go.ChangeShapes Go.WideShapes Go.ChangeAt Go.RowKit Go.Proofs.Ytimllihegnokeaa.Ov

/-- A point and no error; or none and the error 'out of range'. -/
def ans (ok : Bool) (p : Pt) : Value := if ok then .tuple #[.agg #[.int .i64 p.x, .int .i64 p.y], .int .i64 0] else .tuple #[.agg #[.int .i64 0, .int .i64 0], .int .i64 14]
theorem ans_true (p : Pt) : ans true p = .tuple #[.agg #[.int .i64 p.x, .int .i64 p.y], .int .i64 0] := rfl
theorem ans_false (p : Pt) : ans false p = .tuple #[.agg #[.int .i64 0, .int .i64 0], .int .i64 14] := rfl
end Go.Proofs.Ytimllihegnokeaa.Ga
