/-
  The whole number nearest to a quotient, as the package and as the document reckon it.
-/
import Derived.Test.YtimllihegnokeaaGaSmall
namespace Go.Proofs.Ytimllihegnokeaa.Ga
open Go.ChangeShapes Go.WideShapes Go.ChangeAt Go.RowKit Go.Proofs.Ytimllihegnokeaa.Ov

/-- Cut towards zero, against cut downwards. -/
theorem cut_cases (t d : Int) (hd : 0 < d) : (0 ≤ t.tmod d ∧ t.tdiv d = t / d ∧ t.tdiv d * d ≤ t) ∨ (t.tmod d < 0 ∧ t.tdiv d - 1 = t / d ∧ t < t.tdiv d * d) := by
  have h1 := Int.mul_tdiv_add_tmod t d
  have h2 := Int.tmod_lt_of_pos t hd
  have h3 : -d < t.tmod d := by
    have := Int.lt_tmod_of_pos t hd; omega
  generalize t.tdiv d = q at *
  generalize t.tmod d = r at *
  rw [Int.mul_comm] at h1
  by_cases hr : 0 ≤ r
  · refine .inl ⟨hr, ?_, by omega⟩
    rw [← h1, show q * d + r = r + q * d by omega, Int.add_mul_ediv_right _ _ (by omega), Int.ediv_eq_zero_of_lt hr h2]; omega
  · refine .inr ⟨by omega, ?_, by omega⟩
    rw [← h1, show q * d + r = (r + d) + (q - 1) * d by rw [Int.sub_mul]; omega, Int.add_mul_ediv_right _ _ (by omega), Int.ediv_eq_zero_of_lt (by omega) (by omega)]; omega
theorem tdiv_le (t d M : Int) (h1 : -M ≤ t) (h2 : t ≤ M) (hM : 0 ≤ M) : -M ≤ t.tdiv d ∧ t.tdiv d ≤ M := by
  have h : (t.tdiv d).natAbs ≤ t.natAbs := by rw [Int.natAbs_tdiv]; exact Nat.div_le_self _ _
  omega
set_option maxHeartbeats 1000000 in
theorem nearest_any {n d : Int} (h1 : -1125899906842624 ≤ n) (h2 : n ≤ 1125899906842624) (h3 : 0 < d) (h4 : d ≤ 1125899906842624) (w : World) :
    Calls Try.prog 37 #[.int .i64 n, .int .i64 d] w fun e w' => e = .returned (.int .i64 (near n d)) ∧ w = w' := by
  obtain ⟨t1, t2⟩ := tdiv_le (2 * n + d) (2 * d) 4503599627370496 (by omega) (by omega) (by omega)
  have hn : near n d = (2 * n + d) / (2 * d) := rfl
  rcases cut_cases (2 * n + d) (2 * d) (by omega) with ⟨c1, c2, _⟩ | ⟨c1, c2, _⟩
  · have HE := Lib.hid (hn.trans c2.symm); clear hn c2
    go_enter Try.func37, Try.ntmps37
    go_wp2_with (fail)
    go_ret
    exact ⟨ret_int (by rw [HE.out]), rfl⟩
  · have HE := Lib.hid (hn.trans c2.symm); clear hn c2
    go_enter Try.func37, Try.ntmps37
    go_wp2_with (fail)
    go_ret
    exact ⟨ret_int (by rw [HE.out]), rfl⟩
end Go.Proofs.Ytimllihegnokeaa.Ga
