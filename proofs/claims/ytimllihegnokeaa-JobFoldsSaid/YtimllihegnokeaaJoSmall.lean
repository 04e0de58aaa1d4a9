/-
  Jobs: whether a word is one of a fold; rests, rounds, common divisors of numbers.
-/
import Derived.Test.YtimllihegnokeaaJoMath
import Derived.Test.YtimllihegnokeaaOvJump
import Derived.WalkKit
namespace Go.Proofs.Ytimllihegnokeaa.Jo
open Go.ChangeShapes Go.WideShapes Go.ChangeAt Go.RowKit Go.Proofs.Ytimllihegnokeaa.Ov Go.Proofs.Ytimllihegnokeaa.Ga Go.Proofs.Ytimllihegnokeaa.Va

theorem rest_emod {n b : Int} (hb : 0 < b) : (n.tmod b + b).tmod b = n % b := by
  by_cases h : 0 ≤ n
  · rw [Int.tmod_eq_emod_of_nonneg h, Int.tmod_eq_emod_of_nonneg (by have := Int.emod_nonneg n (show b ≠ 0 by omega); omega), Int.add_emod_right, Int.emod_emod]
  · have h2 := Int.lt_tmod_of_pos n hb
    rw [Int.tmod_eq_emod_of_nonneg (by omega), Int.add_emod_right]
    conv => rhs; rw [← Int.tmod_add_mul_tdiv n b, Int.add_mul_emod_self_left]
set_option maxRecDepth 100000 in
theorem rest_any (n b : Int) (hb : 0 < b ∧ b ≤ 18014398509481984) (w : World) : Calls Try.prog 26 #[.int .i64 n, .int .i64 b] w (Gives (.int .i64 (n % b)) w) := by
  have h1 := Int.lt_tmod_of_pos n hb.1
  have h2 := Int.tmod_lt_of_pos n hb.1
  have h3 : wrap64 (n.tmod b + b) = n.tmod b + b := IntWalk.wrap64_in _ (by omega)
  have h4 := rest_emod (n := n) hb.1
  have h5 : (b == 0) = false := beq_eq_false_iff_ne.2 (by omega)
  go_enter Try.func26, Try.ntmps26
  go_wp2_with (fail)
  go_ret
  exact ⟨rfl, Below.refl _ _⟩
set_option maxRecDepth 100000 in
theorem round_any (n b : Int) (hb : 0 < b ∧ b ≤ 9007199254740992) (hn : -36028797018963968 ≤ n ∧ n ≤ 36028797018963968) (w : World) : Calls Try.prog 17 #[.int .i64 n, .int .i64 b] w (Gives (.int .i64 (rg n b)) w) := by
  have HC := Lib.hid (fun w => rest_any (n + b) (2 * b) ⟨by omega, by omega⟩ w)
  have h1 : wrap64 (n + b) = n + b := IntWalk.wrap64_in _ (by omega)
  have h2 : wrap64 (2 * b) = 2 * b := IntWalk.wrap64_in _ (by omega)
  have h3 := Int.emod_nonneg (n + b) (show 2 * b ≠ 0 by omega)
  have h4 := Int.emod_lt_of_pos (n + b) (show 0 < 2 * b by omega)
  have h5 : wrap64 ((n + b) % (2 * b) - b) = rg n b := IntWalk.wrap64_in _ (by omega)
  clear h3 h4 hb hn
  go_enter Try.func17, Try.ntmps17
  go_wp2_with (fail)
  refine (HC.out _).mono ?_
  rintro e w1 ⟨rfl, hb⟩
  have HB := Lib.hid hb; clear hb
  go_wp2_with (fail)
  go_ret
  exact ⟨by rw [h5]; rfl, HB.out⟩
theorem isF_text (s : ByteArray) : isF s.data.toList = (s.toList == [115, 117, 109] || s.toList == [109, 97, 120] || s.toList == [109, 105, 110] || s.toList == [103, 99, 100]) := by
  rw [ByteArray.toList_eq, Bool.eq_iff_iff]
  unfold isF wSum wMax wMin wGcd
  rw [decide_eq_true_iff]
  simp only [Bool.or_eq_true, beq_iff_eq, or_assoc]
theorem isF_any (s : ByteArray) (w : World) : Calls Try.prog 6 #[.string s] w (Gives (.bool (isF s.data.toList)) w) := by
  go_enter Try.func6, Try.ntmps6
  go_wp2_with (fail)
  all_goals
    go_ret
    refine ⟨?_, Below.refl _ _⟩
    rw [isF_text]; simp_all
/-! ### The greatest common divisor of two numbers -/
theorem gcd_tmod (a b : Int) : Int.gcd b (a.tmod b) = Int.gcd a b := by
  rw [Int.gcd_comm a b]
  have h : a = a.tmod b + b * a.tdiv b := (Int.tmod_add_mul_tdiv a b).symm
  conv => rhs; rw [h]
  rw [Int.gcd_add_mul_left_right]
def JC (a b : Int) (w : World) (a' : Act) (w' : World) : Prop := ∃ (p q : Int) (u2 u3 u5 u6 u7 u8 u9 u10 u11 u12 u13 u14 : Value),
  (-9007199254740992 ≤ p ∧ p ≤ 9007199254740992) ∧ (-9007199254740992 ≤ q ∧ q ≤ 9007199254740992) ∧ Int.gcd p q = Int.gcd a b ∧ Below w.heap.size w w' ∧
  a' = { tmps := #[.int .i64 p, .int .i64 q, u2, u3, .int .i64 0, u5, u6, u7, u8, u9, u10, u11, u12, u13, u14], defers := [] }
def muC (a' : Act) (_ : World) : Nat := match a'.tmps[1]! with
  | .int _ q => q.natAbs
  | _ => 0
set_option maxRecDepth 100000 in
theorem common_any (a b : Int) (ha : -9007199254740992 ≤ a ∧ a ≤ 9007199254740992) (hb : -9007199254740992 ≤ b ∧ b ≤ 9007199254740992) (w : World) : Calls Try.prog 18 #[.int .i64 a, .int .i64 b] w (Gives (.int .i64 (Int.gcd a b : Int)) w) := by
  have HA := Lib.hid ha; have HH := Lib.hid hb; clear ha hb
  go_enter Try.func18, Try.ntmps18
  go_wp2_with (fail)
  refine wp_scope_once 0 (JC a b w) muC rfl (fun NX => ?_) ?_
  · go_wp2_with (fail)
    go_step3
    rename_i hK
    exact hK _ _ (NX.out _ _ ⟨a, b, _, _, _, _, _, _, _, _, _, _, _, _, HA.out, HH.out, rfl, Below.refl _ _, rfl⟩)
  · rintro a' w' ⟨p, q, u2, u3, u5, u6, u7, u8, u9, u10, u11, u12, u13, u14, hp, hq, hg, hbl, rfl⟩
    have HP := Lib.hid hp; have HQ := Lib.hid hq; have HG := Lib.hid hg; have HB := Lib.hid hbl; clear hp hq hg hbl
    by_cases h0 : q = 0
    · subst h0
      have HE : Hid (max p (wrap64 (-p)) = (Int.gcd a b : Int)) := by
        show _ = _
        have := HP.out
        rw [IntWalk.wrap64_in _ (by omega), ← HG.out, Int.gcd_zero_right]; omega
      go_wp2_with (fail)
      go_ret
      exact ⟨by rw [HE.out]; rfl, HB.out⟩
    · have h1 : (q == 0) = false := beq_eq_false_iff_ne.2 h0
      go_wp2_with (fail)
      go_region
      go_wp2_with (fail)
      go_step3
      have h2 : (p.tmod q).natAbs < q.natAbs := by rw [Int.natAbs_tmod]; exact Nat.mod_lt _ (by omega)
      have hq := HQ.out
      exact ⟨rfl, ⟨q, p.tmod q, _, _, _, _, _, _, _, _, _, _, _, _, HQ.out, by omega, by rw [gcd_tmod]; exact HG.out, HB.out.drew, rfl⟩, h2⟩
end Go.Proofs.Ytimllihegnokeaa.Jo
