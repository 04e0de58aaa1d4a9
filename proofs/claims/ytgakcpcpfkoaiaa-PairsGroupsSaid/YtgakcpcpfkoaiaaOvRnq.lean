/-
  A region that draws its order and only reads, in a round of a range over a function.
-/
import Derived.Test.YtgakcpcpfkoaiaaOvRng
import Derived.Sort.QuietThIn
import Derived.Sort.QuietIn
namespace Go.Proofs.Ytgakcpcpfkoaiaa.Ov
open Go.RowKit Go.Proofs
variable {F : Fence} {n : Nat} {P : Program} {md : Region.Mode} {ops : Array Oper} {Q : Exit → Act → World → Prop}

theorem operIn_round (l : Nat) (hro : F.round = none) {o : Oper} (hd : ∀ c, o.op ≠ .defer c) {a : Act} {w : World} {next next' : Act → World → Prop} (h : o.wpIn F n P a w next Q) (hn : ∀ a w, next a w → next' a w) : o.wpIn (F.inRound l) n P a w next' Q := by
  have h1 := Oper.wpIn_mono hn h
  refine ⟨h1.1, ?_⟩
  have h2 := h1.2
  rw [hro, Oper.semAt_eq _ _ _ hd] at h2
  rw [Oper.semAt_eq _ _ _ hd]
  exact h2
theorem wpAnyIn_round (l : Nat) (hro : F.round = none) (hd : ∀ (i : Nat) (o : Oper), ops[i]? = some o → ∀ c, o.op ≠ .defer c) :
    ∀ (fuel : Nat) (listed : Array Bool) (a : Act) (w : World), wpAnyIn F n P md ops Q fuel listed a w → wpAnyIn (F.inRound l) n P md ops Q fuel listed a w
  | 0, _, _, _, h => h
  | fuel + 1, listed, a, w, h => ⟨h.1, fun i hi => by
    have hh := h.2 i hi
    have ih := wpAnyIn_round l hro hd fuel (listed.setIfInBounds i true)
    unfold wpOpIn at hh ⊢
    split
    · rename_i ho
      simp only [ho] at hh
      exact ih _ _ hh
    · rename_i o ho
      simp only [ho] at hh
      split
      · rename_i hw
        simp only [hw, if_true] at hh
        exact operIn_round l hro (hd i o ho) hh ih
      · rename_i hw
        simp only [hw] at hh
        exact ⟨hh.1, ih _ _ hh.2⟩⟩
/-- No defer statement. -/
def plainOp (o : Oper) : Bool := match o.op with | .defer _ => false | _ => true
theorem plain_ops {l : List Oper} (h : l.all plainOp = true) : ∀ (i : Nat) (o : Oper), l.toArray[i]? = some o → ∀ c, o.op ≠ .defer c := fun i o ho c e => by
  have hm : o ∈ l := List.mem_of_getElem? (by simpa using ho)
  have := List.all_eq_true.1 h o hm
  unfold plainOp at this
  rw [e] at this; cases this
theorem region_round {id r : Nat} {a : Act} {w : World} {l : List Oper} (hro : F.round = none) (hm : P.follows .mixedOrders = true) (hB : Region.lexB .any l.toArray = true) (hp : l.all plainOp = true)
    (h : wpQuietIn F n P l.toArray (fun w' => ∃ n, w' = w.drewN n) (fun a' => ∀ w', (∃ n, w' = w.drewN n) → Q .normal a' w') l a) : (Code.region id l.toArray true).wpIn (F.inRound r) n P Q a w := by
  simp only [Region.lexB, Bool.and_eq_true] at hB
  refine wpIn_region_any hm (wpAnyIn_round r hro (plain_ops hp) _ _ _ _ (wpAnyIn_of_quiet (C := fun w' => ∃ n, w' = w.drewN n) (Q := fun a' => ∀ w', (∃ n, w' = w.drewN n) → Q .normal a' w') hro (fun _ w' hw' h => h w' hw') _ _ _ _ ⟨1, rfl⟩ ?_))
  have := wpAnyQIn_lex (F := F) (n := n) (C := fun w' => ∃ n, w' = w.drewN n) (md := .any) hB.1 l.toArray.toList 0 (Array.replicate l.toArray.size false) a (by simp) (by simpa using hB.2) (by simpa using h)
  simpa using this
end Go.Proofs.Ytgakcpcpfkoaiaa.Ov
