/-
  The small calls of package value, and cmp's Compare.
-/
import Derived.Test.YtgakcpcpfkoaiaaVaDig
import Derived.Test.YtgakcpcpfkoaiaaOvBlk
import Derived.Test.YtgakcpcpfkoaiaaGaLess
import Derived.Laws.Cover1
namespace Go.Proofs.Ytgakcpcpfkoaiaa.Va
open Go.ChangeShapes Go.WideShapes Go.ChangeAt Go.RowKit Go.Proofs.Ytgakcpcpfkoaiaa.Ov

theorem number_any (n : Int) (w : World) : Calls Try.prog 54 #[.int .i64 n] w (Gives (.agg #[.int .i64 0, .int .i64 n, .string ⟨#[]⟩, .int .i64 0, .int .i64 0]) w) := by
  go_enter Try.func54, Try.ntmps54
  go_wp2_with (fail)
  refine bodyPost_ret (v := .agg #[.int .i64 0, .int .i64 n, .string ⟨#[]⟩, .int .i64 0, .int .i64 0]) (by simp [results, Try.results54, go_sem]) rfl ⟨rfl, ?_⟩
  exact box1 w _
theorem text_any (s : ByteArray) (w : World) : Calls Try.prog 55 #[.string s] w (Gives (.agg #[.int .i64 1, .int .i64 0, .string s, .int .i64 0, .int .i64 0]) w) := by
  go_enter Try.func55, Try.ntmps55
  go_wp2_with (fail)
  refine bodyPost_ret (v := .agg #[.int .i64 1, .int .i64 0, .string s, .int .i64 0, .int .i64 0]) (by simp [results, Try.results55, go_sem]) rfl ⟨rfl, ?_⟩
  exact box1 w _
theorem point_any (x y : Int) (w : World) : Calls Try.prog 56 #[.agg #[.int .i64 x, .int .i64 y]] w (Gives (.agg #[.int .i64 2, .int .i64 0, .string ⟨#[]⟩, .int .i64 x, .int .i64 y]) w) := by
  go_enter Try.func56, Try.ntmps56
  go_wp2_with (fail)
  refine bodyPost_ret (v := .agg #[.int .i64 2, .int .i64 0, .string ⟨#[]⟩, .int .i64 x, .int .i64 y]) (by simp [results, Try.results56, go_sem]) rfl ⟨rfl, ?_⟩
  exact box2 w _ _
theorem cmpS_any (a b : ByteArray) (w : World) : Calls Try.prog 50 #[.string a, .string b] w fun e w' => e = .returned (.int .i64 (cS a.data.toList b.data.toList)) ∧ w = w' := by
  rw [← ByteArray.toList_eq, ← ByteArray.toList_eq]
  rcases less_total a.toList b.toList with h | h | h
  · rw [cS_lt h]
    go_enter Try.func50, Try.ntmps50
    go_wp2_with (go_in)
    go_ret
    exact ⟨rfl, rfl⟩
  · rw [cS_gt h]
    have h1 := less_asymm h
    have h2 : (a.toList == b.toList) = false := by
      rw [beq_eq_false_iff_ne]; intro e; rw [e, less_irrefl] at h; cases h
    go_enter Try.func50, Try.ntmps50
    go_wp2_with (go_in)
    go_ret
    exact ⟨rfl, rfl⟩
  · have h1 : Op.bytesLess a.toList b.toList = false := by rw [h]; exact less_irrefl _
    have h2 : (a.toList == b.toList) = true := by rw [beq_iff_eq]; exact h
    have he : cS a.toList b.toList = 0 := by rw [h]; exact cS_self _
    rw [he]; clear he h
    go_enter Try.func50, Try.ntmps50
    go_wp2_with (go_in)
    go_ret
    exact ⟨rfl, rfl⟩
end Go.Proofs.Ytgakcpcpfkoaiaa.Va
