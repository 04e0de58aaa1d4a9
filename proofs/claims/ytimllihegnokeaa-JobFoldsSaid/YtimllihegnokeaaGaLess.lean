/-
  Which of two points comes first.
-/
import Derived.Test.YtimllihegnokeaaGaCalls
namespace Go.Proofs.Ytimllihegnokeaa.Ga
open Go.ChangeShapes Go.WideShapes Go.ChangeAt Go.RowKit Go.Proofs.Ytimllihegnokeaa.Ov

theorem less_any (x y u v : Int) (w : World) : Calls Try.prog 32 #[.agg #[.int .i64 x, .int .i64 y], .agg #[.int .i64 u, .int .i64 v]] w (Gives (.bool (decide (x < u ∨ x = u ∧ y < v))) w) := by
  by_cases h1 : x = u
  · by_cases h2 : y < v
    · have hd : decide (x < u ∨ x = u ∧ y < v) = true := decide_eq_true (.inr ⟨h1, h2⟩)
      rw [hd]; clear hd
      subst h1
      go_enter Try.func32, Try.ntmps32
      go_wp2_with (fail)
      go_ret
      exact ⟨rfl, below2 w _ _⟩
    · have hd : decide (x < u ∨ x = u ∧ y < v) = false := decide_eq_false (by omega)
      rw [hd]; clear hd
      subst h1
      go_enter Try.func32, Try.ntmps32
      go_wp2_with (fail)
      go_ret
      exact ⟨rfl, below2 w _ _⟩
  · have hne : (x == u) = false := beq_eq_false_iff_ne.2 h1
    by_cases h2 : x < u
    · have hd : decide (x < u ∨ x = u ∧ y < v) = true := decide_eq_true (.inl h2)
      rw [hd]; clear hd h1
      go_enter Try.func32, Try.ntmps32
      go_wp2_with (fail)
      go_ret
      exact ⟨rfl, below2 w _ _⟩
    · have hd : decide (x < u ∨ x = u ∧ y < v) = false := decide_eq_false (by omega)
      rw [hd]; clear hd h1
      go_enter Try.func32, Try.ntmps32
      go_wp2_with (fail)
      go_ret
      exact ⟨rfl, below2 w _ _⟩
end Go.Proofs.Ytimllihegnokeaa.Ga
