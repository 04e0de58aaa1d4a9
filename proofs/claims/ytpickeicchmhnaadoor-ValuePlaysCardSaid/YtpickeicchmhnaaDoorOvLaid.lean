/-
  Of any seat whose rows list variables: each listed variable reads as its datum.
-/
import Derived.Test.YtpickeicchmhnaaDoorOvTab
import Derived.LaidMore
namespace Go.Proofs.YtpickeicchmhnaaDoor.Ov
open Go.ChangeShapes Go.WideShapes Go.ChangeAt Go.RowKit

theorem laid_reads {P : Program} {w : World} : ∀ {l : List (String × DataW Unit)} {ps : List MemPlace}, DataW.LaidVars P w l ps → ∀ n d, (n, d) ∈ l →
    ∃ g t cs fuel p, P.globalNamed n = some g ∧ (P.globals[g]?).map (·.type) = some t ∧ w.var? P n = some cs ∧ DataW.trod (fun _ => ()) P w 0 (fun _ => true) false fuel t cs.toList = some (d, p)
  | [], _, _, _, _, hm => by cases hm
  | (n', d') :: r, ps, h, n, d, hm => by
    obtain ⟨g, t, cs, fuel, p, q, h1, h2, h3, h4, h5, _⟩ := h
    rcases List.mem_cons.1 hm with e | e
    · cases e
      exact ⟨g, t, cs, fuel, p, h1, h2, h3, h4⟩
    · exact laid_reads h5 n d e
theorem tab_met {w : World} {l : List (String × DataW Unit)} {d : DataW Unit} (hd : d = Lib.tabData .u64 Lib.pow10Tab) (hm : ("internal/strconv.uint64pow10", d) ∈ l) (h : laidMet Tryd.prog l w) : Tab w :=
  let ⟨_, hv, _⟩ := h
  tab_of d hd (laid_reads hv _ d hm)
end Go.Proofs.YtpickeicchmhnaaDoor.Ov
