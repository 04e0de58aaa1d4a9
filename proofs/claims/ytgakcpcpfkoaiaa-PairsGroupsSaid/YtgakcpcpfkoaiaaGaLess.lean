/-
  Which of two points comes first.
-/
import Derived.Test.YtgakcpcpfkoaiaaGaCalls
namespace Go.Proofs.Ytgakcpcpfkoaiaa.Ga
open Go.ChangeShapes Go.WideShapes Go.ChangeAt Go.RowKit Go.Proofs.Ytgakcpcpfkoaiaa.Ov

end Go.Proofs.Ytgakcpcpfkoaiaa.Ga
