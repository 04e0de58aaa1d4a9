/-
  Turn, Div.
-/
import Derived.Test.YtimllihegnokeaaGaFirst
namespace Go.Proofs.Ytimllihegnokeaa.Ga
open Go.ChangeShapes Go.WideShapes Go.ChangeAt Go.RowKit Go.Proofs.Ytimllihegnokeaa.Ov

theorem bits_and3 (n : Int) : bits .and .i64 n 3 = (((n % 4).toNat : Nat) : Int) := by
  show IntKind.i64.wrap ((BitVec.ofInt 64 n &&& BitVec.ofInt 64 3).toNat : Int) = _
  rw [BitVec.toNat_and, BitVec.toNat_ofInt, IntKind.wrap_i64]
  have e2 : (BitVec.ofInt 64 3).toNat = 3 := by decide
  rw [e2]
  have e3 : (n % ((2 ^ 64 : Nat) : Int)).toNat &&& 3 = (n % ((2 ^ 64 : Nat) : Int)).toNat % 4 := Nat.and_two_pow_sub_one_eq_mod _ 2
  rw [e3]; omega
/-- Two points and an error. -/
def two (p q r s e : Int) : Value := .tuple #[.agg #[.int .i64 p, .int .i64 q], .agg #[.int .i64 r, .int .i64 s], .int .i64 e]
end Go.Proofs.Ytimllihegnokeaa.Ga
