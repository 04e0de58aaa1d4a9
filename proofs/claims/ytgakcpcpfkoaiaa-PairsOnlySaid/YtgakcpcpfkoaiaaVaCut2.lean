/-
  What cutWhole and cutNumbers answer.
-/
import Derived.Test.YtgakcpcpfkoaiaaVaCut
import Derived.Test.YtgakcpcpfkoaiaaVaNum
import Derived.Test.YtgakcpcpfkoaiaaVaRight
import Derived.Test.YtgakcpcpfkoaiaaOvPre
namespace Go.Proofs.Ytgakcpcpfkoaiaa.Va
open Go.ChangeShapes Go.WideShapes Go.ChangeAt Go.RowKit Go.Proofs.Ytgakcpcpfkoaiaa.Ov Go.Proofs.Ytgakcpcpfkoaiaa.Tp

def cwv (r : Int × Nat × Nat) : Value := .tuple #[.int .i64 r.1, .int .i64 (r.2.1 : Int), .int .i64 (r.2.2 : Int)]
theorem ext_list (s : ByteArray) (n : Nat) : (s.extract n s.size).data.toList = s.data.toList.drop n := by rw [ext_drop, tx_list]
theorem ext_size (s : ByteArray) (n : Nat) : (s.extract n s.size).size = s.size - n := by simp
end Go.Proofs.Ytgakcpcpfkoaiaa.Va
