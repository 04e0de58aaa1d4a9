/-
  Of any seat that holds []byte: the text of a row of bytes.
-/
import Derived.Test.YtgakcpcpfkoaiaaOvBase
namespace Go.Proofs.Ytgakcpcpfkoaiaa.Ov
open Go.ChangeShapes Go.WideShapes Go.ChangeAt Go.RowKit
theorem info8 : (Try.prog.info? 5).map (fun i => (i.zero, i.size, i.bytes)) = some (some (.int .u8 0), 1, 1) := by kernel_rfl
/-- string(b), of a row of bytes. -/
theorem run_text {w : World} {b o c : Nat} {l : List UInt8} {m : Nat} (hm : m = l.length) (h : ∀ j (hj : j < l.length), w.cell? ⟨b, o + j, none⟩ = some (.int .u8 (l[j].toNat : Int))) :
    (convert 48 9 (.slice (some ⟨b, o, none⟩) m c)).run Try.prog w = .ok (.string (tx l)) w := by
  have := Lib.run_convert_whole (P := Try.prog) w 48 5 9 Try.underlying48 Try.underlying5 Try.underlying9 b o (tx l) (fun i hi => by
    rw [h i (by rwa [tx_size] at hi)]; rfl) c
  rw [tx_size, ← hm] at this
  exact this
end Go.Proofs.Ytgakcpcpfkoaiaa.Ov
