/-
  The small calls of package value, and cmp's Compare.
-/
import Derived.Test.YtpickeicchmhnaaDoorVaDig
import Derived.Test.YtpickeicchmhnaaDoorOvBlk
import Derived.Test.YtpickeicchmhnaaDoorGaLess
import Derived.Laws.Cover1
namespace Go.Proofs.YtpickeicchmhnaaDoor.Va
open Go.ChangeShapes Go.WideShapes Go.ChangeAt Go.RowKit Go.Proofs.YtpickeicchmhnaaDoor.Ov

theorem number_any (n : Int) (w : World) : Calls Tryd.prog 20 #[.int .i64 n] w (Gives (.agg #[.int .i64 0, .int .i64 n, .string ⟨#[]⟩, .int .i64 0, .int .i64 0]) w) := by
  go_enter Tryd.func20, Tryd.ntmps20
  go_wp2_with (fail)
  refine bodyPost_ret (v := .agg #[.int .i64 0, .int .i64 n, .string ⟨#[]⟩, .int .i64 0, .int .i64 0]) (by simp [results, Tryd.results20, go_sem]) rfl ⟨rfl, ?_⟩
  exact box1 w _
theorem text_any (s : ByteArray) (w : World) : Calls Tryd.prog 21 #[.string s] w (Gives (.agg #[.int .i64 1, .int .i64 0, .string s, .int .i64 0, .int .i64 0]) w) := by
  go_enter Tryd.func21, Tryd.ntmps21
  go_wp2_with (fail)
  refine bodyPost_ret (v := .agg #[.int .i64 1, .int .i64 0, .string s, .int .i64 0, .int .i64 0]) (by simp [results, Tryd.results21, go_sem]) rfl ⟨rfl, ?_⟩
  exact box1 w _
theorem point_any (x y : Int) (w : World) : Calls Tryd.prog 22 #[.agg #[.int .i64 x, .int .i64 y]] w (Gives (.agg #[.int .i64 2, .int .i64 0, .string ⟨#[]⟩, .int .i64 x, .int .i64 y]) w) := by
  go_enter Tryd.func22, Tryd.ntmps22
  go_wp2_with (fail)
  refine bodyPost_ret (v := .agg #[.int .i64 2, .int .i64 0, .string ⟨#[]⟩, .int .i64 x, .int .i64 y]) (by simp [results, Tryd.results22, go_sem]) rfl ⟨rfl, ?_⟩
  exact box2 w _ _
theorem plain_any (c : UInt8) (w : World) : Calls Tryd.prog 54 #[.int .u8 (c.toNat : Int)] w fun e w' => e = .returned (.bool (pl c)) ∧ w = w' := by
  obtain ⟨m, hm⟩ : ∃ m : Nat, m = c.toNat := ⟨_, rfl⟩
  have he : pl c = decide (32 ≤ m ∧ m ≤ 126 ∧ m ≠ 34 ∧ m ≠ 92) := by rw [hm]; rfl
  have hlt := c.toNat_lt
  rw [he, ← hm]
  rw [← hm] at hlt
  clear he hm
  by_cases h1 : 32 ≤ m
  · by_cases h2 : m ≤ 126
    · by_cases h3 : m = 34
      · subst h3
        go_enter Tryd.func54, Tryd.ntmps54
        go_wp2_with (fail)
        go_ret
        exact ⟨rfl, rfl⟩
      · have n3 : ((m : Int) != 34) = true := by rw [bne_iff_ne]; omega
        by_cases h4 : m = 92
        · subst h4
          go_enter Tryd.func54, Tryd.ntmps54
          go_wp2_with (fail)
          go_ret
          exact ⟨rfl, rfl⟩
        · have n4 : ((m : Int) != 92) = true := by rw [bne_iff_ne]; omega
          have he : decide (32 ≤ m ∧ m ≤ 126 ∧ m ≠ 34 ∧ m ≠ 92) = true := decide_eq_true ⟨h1, h2, h3, h4⟩
          rw [he]; clear he h3 h4
          go_enter Tryd.func54, Tryd.ntmps54
          go_wp2_with (fail)
          go_ret
          exact ⟨rfl, rfl⟩
    · have he : decide (32 ≤ m ∧ m ≤ 126 ∧ m ≠ 34 ∧ m ≠ 92) = false := decide_eq_false (by omega)
      rw [he]; clear he
      go_enter Tryd.func54, Tryd.ntmps54
      go_wp2_with (fail)
      go_ret
      exact ⟨rfl, rfl⟩
  · have he : decide (32 ≤ m ∧ m ≤ 126 ∧ m ≠ 34 ∧ m ≠ 92) = false := decide_eq_false (by omega)
    rw [he]; clear he
    go_enter Tryd.func54, Tryd.ntmps54
    go_wp2_with (fail)
    go_ret
    exact ⟨rfl, rfl⟩
theorem isDigit_any (c : UInt8) (w : World) : Calls Tryd.prog 32 #[.int .u8 (c.toNat : Int)] w fun e w' => e = .returned (.bool (dg c)) ∧ w = w' := by
  obtain ⟨m, hm⟩ : ∃ m : Nat, m = c.toNat := ⟨_, rfl⟩
  have he : dg c = decide (48 ≤ m ∧ m ≤ 57) := by rw [hm]; rfl
  have hlt := c.toNat_lt
  rw [he, ← hm]
  rw [← hm] at hlt
  clear he hm
  by_cases h1 : 48 ≤ m
  · by_cases h2 : m ≤ 57
    · have he : decide (48 ≤ m ∧ m ≤ 57) = true := decide_eq_true ⟨h1, h2⟩
      rw [he]; clear he
      go_enter Tryd.func32, Tryd.ntmps32
      go_wp2_with (fail)
      go_ret
      exact ⟨congrArg (fun b => Ending.returned (.bool b)) (decide_eq_true (by omega)), rfl⟩
    · have he : decide (48 ≤ m ∧ m ≤ 57) = false := decide_eq_false (by omega)
      rw [he]; clear he
      go_enter Tryd.func32, Tryd.ntmps32
      go_wp2_with (fail)
      go_ret
      exact ⟨congrArg (fun b => Ending.returned (.bool b)) (decide_eq_false (by omega)), rfl⟩
  · have he : decide (48 ≤ m ∧ m ≤ 57) = false := decide_eq_false (by omega)
    rw [he]; clear he
    go_enter Tryd.func32, Tryd.ntmps32
    go_wp2_with (fail)
    go_ret
    exact ⟨rfl, rfl⟩
theorem cmpI_any (a b : Int) (w : World) : Calls Tryd.prog 36 #[.int .i64 a, .int .i64 b] w fun e w' => e = .returned (.int .i64 (cI a b)) ∧ w = w' := by
  by_cases h1 : a < b
  · have he : cI a b = -1 := if_pos h1
    rw [he]; clear he
    go_enter Tryd.func36, Tryd.ntmps36
    go_wp2_with (go_in)
    go_ret
    exact ⟨rfl, rfl⟩
  · by_cases h2 : b < a
    · have he : cI a b = 1 := by unfold cI; rw [if_neg h1, if_pos h2]
      rw [he]; clear he
      go_enter Tryd.func36, Tryd.ntmps36
      go_wp2_with (go_in)
      go_ret
      exact ⟨rfl, rfl⟩
    · have he : cI a b = 0 := by unfold cI; rw [if_neg h1, if_neg h2]
      rw [he]; clear he
      go_enter Tryd.func36, Tryd.ntmps36
      go_wp2_with (go_in)
      go_ret
      exact ⟨rfl, rfl⟩
theorem cmpS_any (a b : ByteArray) (w : World) : Calls Tryd.prog 37 #[.string a, .string b] w fun e w' => e = .returned (.int .i64 (cS a.data.toList b.data.toList)) ∧ w = w' := by
  rw [← ByteArray.toList_eq, ← ByteArray.toList_eq]
  rcases less_total a.toList b.toList with h | h | h
  · rw [cS_lt h]
    go_enter Tryd.func37, Tryd.ntmps37
    go_wp2_with (go_in)
    go_ret
    exact ⟨rfl, rfl⟩
  · rw [cS_gt h]
    have h1 := less_asymm h
    have h2 : (a.toList == b.toList) = false := by
      rw [beq_eq_false_iff_ne]; intro e; rw [e, less_irrefl] at h; cases h
    go_enter Tryd.func37, Tryd.ntmps37
    go_wp2_with (go_in)
    go_ret
    exact ⟨rfl, rfl⟩
  · have h1 : Op.bytesLess a.toList b.toList = false := by rw [h]; exact less_irrefl _
    have h2 : (a.toList == b.toList) = true := by rw [beq_iff_eq]; exact h
    have he : cS a.toList b.toList = 0 := by rw [h]; exact cS_self _
    rw [he]; clear he h
    go_enter Tryd.func37, Tryd.ntmps37
    go_wp2_with (go_in)
    go_ret
    exact ⟨rfl, rfl⟩
end Go.Proofs.YtpickeicchmhnaaDoor.Va
