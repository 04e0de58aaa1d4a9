/-
  Of any seat that holds []byte: the text of a row of bytes.
-/
import Derived.Test.YtpickeicchmhnaaDoorOvBase
namespace Go.Proofs.YtpickeicchmhnaaDoor.Ov
open Go.ChangeShapes Go.WideShapes Go.ChangeAt Go.RowKit
theorem info8 : (Tryd.prog.info? 5).map (fun i => (i.zero, i.size, i.bytes)) = some (some (.int .u8 0), 1, 1) := by kernel_rfl
/-- string(b), of a row of bytes. -/
theorem run_text {w : World} {b o c : Nat} {l : List UInt8} {m : Nat} (hm : m = l.length) (h : ∀ j (hj : j < l.length), w.cell? ⟨b, o + j, none⟩ = some (.int .u8 (l[j].toNat : Int))) :
    (convert 57 9 (.slice (some ⟨b, o, none⟩) m c)).run Tryd.prog w = .ok (.string (tx l)) w := by
  have := Lib.run_convert_whole (P := Tryd.prog) w 57 5 9 Tryd.underlying57 Tryd.underlying5 Tryd.underlying9 b o (tx l) (fun i hi => by
    rw [h i (by rwa [tx_size] at hi)]; rfl) c
  rw [tx_size, ← hm] at this
  exact this
end Go.Proofs.YtpickeicchmhnaaDoor.Ov
