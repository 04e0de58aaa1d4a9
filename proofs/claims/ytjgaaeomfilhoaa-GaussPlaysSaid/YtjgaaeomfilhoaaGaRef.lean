/-
  The document's answers for layer 6.
-/
import Derived.Test.YtjgaaeomfilhoaaGaAwake
namespace Go.Proofs.Ytjgaaeomfilhoaa.Ga
open Go.ChangeShapes Go.WideShapes Go.ChangeAt Go.RowKit Go.Proofs.Ytjgaaeomfilhoaa.Ov

theorem rright_any (x y : Int) (w : World) : Calls Try.prog 16 #[.agg #[.int .i64 x, .int .i64 y]] w (Gives (.bool (rb ⟨x, y⟩)) w) := by
  by_cases h1 : -16777216 ≤ x
  · by_cases h2 : x ≤ 16777216
    · by_cases h3 : -16777216 ≤ y
      · by_cases h4 : y ≤ 16777216
        · have e : rb ⟨x, y⟩ = true := rb_of ⟨⟨h1, h2⟩, h3, h4⟩
          rw [e]; clear e
          go_enter Try.func16, Try.ntmps16
          go_wp2_with (fail)
          go_ret
          exact ⟨rfl, below1 w _⟩
        · have e : rb ⟨x, y⟩ = false := by unfold rb; rw [show fb y = false from decide_eq_false (by omega), Bool.and_false]
          rw [e]; clear e
          go_enter Try.func16, Try.ntmps16
          go_wp2_with (fail)
          go_ret
          exact ⟨rfl, below1 w _⟩
      · have e : rb ⟨x, y⟩ = false := by unfold rb; rw [show fb y = false from decide_eq_false (by omega), Bool.and_false]
        rw [e]; clear e
        go_enter Try.func16, Try.ntmps16
        go_wp2_with (fail)
        go_ret
        exact ⟨rfl, below1 w _⟩
    · have e : rb ⟨x, y⟩ = false := by unfold rb; rw [show fb x = false from decide_eq_false (by omega), Bool.false_and]
      rw [e]; clear e
      go_enter Try.func16, Try.ntmps16
      go_wp2_with (fail)
      go_ret
      exact ⟨rfl, below1 w _⟩
  · have e : rb ⟨x, y⟩ = false := by unfold rb; rw [show fb x = false from decide_eq_false (by omega), Bool.false_and]
    rw [e]; clear e
    go_enter Try.func16, Try.ntmps16
    go_wp2_with (fail)
    go_ret
    exact ⟨rfl, below1 w _⟩
theorem rnorm_any {x y : Int} (h : rb ⟨x, y⟩ = true) (w : World) : Calls Try.prog 21 #[.agg #[.int .i64 x, .int .i64 y]] w (Gives (.int .i64 (x * x + y * y)) w) := by
  obtain ⟨hx, hy⟩ := rb_xy h
  obtain ⟨h1, h2⟩ := mul_big hx hx
  obtain ⟨h3, h4⟩ := mul_big hy hy
  clear hx hy h
  go_enter Try.func21, Try.ntmps21
  go_wp2_with (fail)
  go_ret
  exact ⟨rfl, below1 w _⟩
theorem rmul_any {x y u v : Int} (ha : rb ⟨x, y⟩ = true) (hb : rb ⟨u, v⟩ = true) (w : World) : Calls Try.prog 17 #[.agg #[.int .i64 x, .int .i64 y], .agg #[.int .i64 u, .int .i64 v]] w
    (Gives (.agg #[.int .i64 (x * u - y * v), .int .i64 (x * v + y * u)]) w) := by
  obtain ⟨hx, hy⟩ := rb_xy ha
  obtain ⟨hu, hv⟩ := rb_xy hb
  obtain ⟨h1, h2⟩ := mul_big hx hu
  obtain ⟨h3, h4⟩ := mul_big hy hv
  obtain ⟨h5, h6⟩ := mul_big hx hv
  obtain ⟨h7, h8⟩ := mul_big hy hu
  clear hx hy hu hv ha hb
  go_enter Try.func17, Try.ntmps17
  go_wp2_with (fail)
  refine bodyPost_ret (v := .agg #[.int .i64 (x * u - y * v), .int .i64 (x * v + y * u)]) (by simp [results, Try.results17, go_sem]) rfl ⟨rfl, ?_⟩
  exact below3 w _ _ _
set_option maxHeartbeats 1000000 in
theorem rnearest_any {n d : Int} (h1 : -1125899906842624 ≤ n) (h2 : n ≤ 1125899906842624) (h3 : 0 < d) (h4 : d ≤ 1125899906842624) (w : World) :
    Calls Try.prog 37 #[.int .i64 n, .int .i64 d] w (Gives (.int .i64 (near n d)) w) := by
  obtain ⟨t1, t2⟩ := tdiv_le (2 * n + d) (2 * d) 4503599627370496 (by omega) (by omega) (by omega)
  have hn : near n d = (2 * n + d) / (2 * d) := rfl
  have hc := cut_cases (2 * n + d) (2 * d) (by omega)
  have hm := Int.mul_tdiv_add_tmod (2 * n + d) (2 * d)
  have hl := Int.tmod_lt_of_pos (2 * n + d) (show 0 < 2 * d by omega)
  have hg := Int.lt_tmod_of_pos (2 * n + d) (show 0 < 2 * d by omega)
  generalize (2 * n + d).tmod (2 * d) = r at *
  obtain ⟨q, hq⟩ : ∃ q, (2 * n + d).tdiv (2 * d) = q := ⟨_, rfl⟩
  rw [hq] at hc hm t1 t2
  have e1 : 2 * d * q = q * 2 * d := by grind
  have e2 : q * (2 * d) = q * 2 * d := by grind
  rw [e1] at hm
  rw [e2] at hc
  have b1 : -9007199254740992 ≤ q * 2 * d := by omega
  have b2 : q * 2 * d ≤ 9007199254740992 := by omega
  rcases hc with ⟨c1, c2, c3⟩ | ⟨c1, c2, c3⟩
  · have HE := Lib.hid (hn.trans c2.symm)
    clear hn c2 c1 hm hl hg e1 e2
    go_enter Try.func37, Try.ntmps37
    go_wp2_with (fail)
    go_ret
    exact ⟨ret_int (by rw [HE.out]), Below.refl _ _⟩
  · have HE := Lib.hid (hn.trans c2.symm)
    clear hn c2 c1 hm hl hg e1 e2
    go_enter Try.func37, Try.ntmps37
    go_wp2_with (fail)
    go_ret
    exact ⟨ret_int (by rw [HE.out]), Below.refl _ _⟩
end Go.Proofs.Ytjgaaeomfilhoaa.Ga
