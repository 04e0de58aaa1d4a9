/-
  The small calls of package value, and cmp's Compare.
-/
import Derived.Test.YtimllihegnokeaaVaDig
import Derived.Test.YtimllihegnokeaaOvBlk
import Derived.Test.YtimllihegnokeaaGaLess
import Derived.Laws.Cover1
namespace Go.Proofs.Ytimllihegnokeaa.Va
open Go.ChangeShapes Go.WideShapes Go.ChangeAt Go.RowKit Go.Proofs.Ytimllihegnokeaa.Ov

theorem number_any (n : Int) (w : World) : Calls Try.prog 11 #[.int .i64 n] w (Gives (.agg #[.int .i64 0, .int .i64 n, .string ⟨#[]⟩, .int .i64 0, .int .i64 0]) w) := by
  go_enter Try.func11, Try.ntmps11
  go_wp2_with (fail)
  refine bodyPost_ret (v := .agg #[.int .i64 0, .int .i64 n, .string ⟨#[]⟩, .int .i64 0, .int .i64 0]) (by simp [results, Try.results11, go_sem]) rfl ⟨rfl, ?_⟩
  exact box1 w _
theorem text_any (s : ByteArray) (w : World) : Calls Try.prog 12 #[.string s] w (Gives (.agg #[.int .i64 1, .int .i64 0, .string s, .int .i64 0, .int .i64 0]) w) := by
  go_enter Try.func12, Try.ntmps12
  go_wp2_with (fail)
  refine bodyPost_ret (v := .agg #[.int .i64 1, .int .i64 0, .string s, .int .i64 0, .int .i64 0]) (by simp [results, Try.results12, go_sem]) rfl ⟨rfl, ?_⟩
  exact box1 w _
theorem point_any (x y : Int) (w : World) : Calls Try.prog 13 #[.agg #[.int .i64 x, .int .i64 y]] w (Gives (.agg #[.int .i64 2, .int .i64 0, .string ⟨#[]⟩, .int .i64 x, .int .i64 y]) w) := by
  go_enter Try.func13, Try.ntmps13
  go_wp2_with (fail)
  refine bodyPost_ret (v := .agg #[.int .i64 2, .int .i64 0, .string ⟨#[]⟩, .int .i64 x, .int .i64 y]) (by simp [results, Try.results13, go_sem]) rfl ⟨rfl, ?_⟩
  exact box2 w _ _
theorem cmpI_any (a b : Int) (w : World) : Calls Try.prog 22 #[.int .i64 a, .int .i64 b] w fun e w' => e = .returned (.int .i64 (cI a b)) ∧ w = w' := by
  by_cases h1 : a < b
  · have he : cI a b = -1 := if_pos h1
    rw [he]; clear he
    go_enter Try.func22, Try.ntmps22
    go_wp2_with (go_in)
    go_ret
    exact ⟨rfl, rfl⟩
  · by_cases h2 : b < a
    · have he : cI a b = 1 := by unfold cI; rw [if_neg h1, if_pos h2]
      rw [he]; clear he
      go_enter Try.func22, Try.ntmps22
      go_wp2_with (go_in)
      go_ret
      exact ⟨rfl, rfl⟩
    · have he : cI a b = 0 := by unfold cI; rw [if_neg h1, if_neg h2]
      rw [he]; clear he
      go_enter Try.func22, Try.ntmps22
      go_wp2_with (go_in)
      go_ret
      exact ⟨rfl, rfl⟩
theorem cmpS_any (a b : ByteArray) (w : World) : Calls Try.prog 23 #[.string a, .string b] w fun e w' => e = .returned (.int .i64 (cS a.data.toList b.data.toList)) ∧ w = w' := by
  rw [← ByteArray.toList_eq, ← ByteArray.toList_eq]
  rcases less_total a.toList b.toList with h | h | h
  · rw [cS_lt h]
    go_enter Try.func23, Try.ntmps23
    go_wp2_with (go_in)
    go_ret
    exact ⟨rfl, rfl⟩
  · rw [cS_gt h]
    have h1 := less_asymm h
    have h2 : (a.toList == b.toList) = false := by
      rw [beq_eq_false_iff_ne]; intro e; rw [e, less_irrefl] at h; cases h
    go_enter Try.func23, Try.ntmps23
    go_wp2_with (go_in)
    go_ret
    exact ⟨rfl, rfl⟩
  · have h1 : Op.bytesLess a.toList b.toList = false := by rw [h]; exact less_irrefl _
    have h2 : (a.toList == b.toList) = true := by rw [beq_iff_eq]; exact h
    have he : cS a.toList b.toList = 0 := by rw [h]; exact cS_self _
    rw [he]; clear he h
    go_enter Try.func23, Try.ntmps23
    go_wp2_with (go_in)
    go_ret
    exact ⟨rfl, rfl⟩
end Go.Proofs.Ytimllihegnokeaa.Va
