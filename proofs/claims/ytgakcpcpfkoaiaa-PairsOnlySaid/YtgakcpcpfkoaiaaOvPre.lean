/-
  Of any seat that holds strings.HasPrefix: what it answers of a text of one byte, by the shelf (laid in plain words; written by gen_lay.py).
-/
import Derived.Test.YtgakcpcpfkoaiaaOvBase
import Derived.Shelf.Strings.Prefix
namespace Go.Proofs.Ytgakcpcpfkoaiaa.Ov
open Go.ChangeShapes Go.WideShapes Go.ChangeAt Go.RowKit Go.Shelf

end Go.Proofs.Ytgakcpcpfkoaiaa.Ov
