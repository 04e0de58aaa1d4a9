/-
  What each call on a field answers: exponent, rest, Exp, Mul, Div, Log, Pow, Add; nil, too.
-/
import Derived.Test.YtkgfkchdbbeljaaGfNew
namespace Go.Proofs.Ytkgfkchdbbeljaa.Gf
open Go.ChangeShapes Go.WideShapes Go.ChangeAt Go.RowKit

theorem i64_bd {n : Int} (h : (Lit.int .i64 n).wf = true) : -9223372036854775808 ≤ n ∧ n ≤ 9223372036854775807 := by
  simpa [Lit.wf, IntKind.min, IntKind.max, IntKind.bits, IntKind.signed] using h
theorem rest_neg (n : Int) (h : n.tmod 255 < 0) : wrap64 (n.tmod 255 + 255) = n % 255 := by
  have h1 := Int.tmod_eq_emod (a := n) (b := 255)
  simp only [wrap64]
  split at h1 <;> omega
theorem rest_pos (n : Int) (h : 0 ≤ n.tmod 255) : n.tmod 255 = n % 255 := by
  have h1 := Int.tmod_eq_emod (a := n) (b := 255)
  split at h1 <;> omega
set_option maxHeartbeats 400000 in
theorem rest_any (n : Int) (w : World) :
    Calls Try.prog 45 #[.int .i64 n] w fun e w' => e = .returned (.int .i64 (n % 255)) ∧ w' = w := by
  go_enter Try.func45, Try.ntmps45
  go_wp2
  · rename_i h
    go_ret
    exact ⟨congrArg (fun x => Ending.returned (.int .i64 x)) (rest_neg n h), rfl⟩
  · rename_i h
    go_ret
    exact ⟨congrArg (fun x => Ending.returned (.int .i64 x)) (rest_pos n h), rfl⟩
set_option maxHeartbeats 400000 in
theorem exponent_any (b : Nat) (a : Int) (h0 : 0 ≤ a) (h1 : a ≤ 255) (w : World) (hF : IsF w b) :
    Calls Try.prog 44 #[.pointer (some ⟨b, 0, none⟩), .int .u8 a] w fun e w' => e = .returned (.int .i64 (lg a.toNat : Nat)) ∧ w = w' := by
  obtain ⟨a, rfl⟩ := Int.eq_ofNat_of_zero_le h0
  rw [Int.toNat_natCast]
  have hc := hF.log a (by omega)
  have hl := lg_le a (by omega)
  clear hF
  go_enter Try.func44, Try.ntmps44
  go_wp2
  go_ret
  exact ⟨rfl, rfl⟩
set_option maxHeartbeats 400000 in
theorem exp_any (b : Nat) (n : Int) (w : World) (hF : IsF w b) :
    Calls Try.prog 43 #[.pointer (some ⟨b, 0, none⟩), .int .i64 n] w fun e w' => e = .returned (.int .u8 (ex n : Nat)) ∧ ∃ m, w' = w.drewN m := by
  show Calls _ _ _ _ fun e w' => e = .returned (.int .u8 (pw (n % 255).toNat : Nat)) ∧ ∃ m, w' = w.drewN m
  have hc := hF.pow (n % 255).toNat (by omega)
  have h0 : 0 ≤ n % 255 := by omega
  have h1 : n % 255 < 255 := by omega
  clear hF
  go_enter Try.func43, Try.ntmps43
  go_wp2
  go_quiet ((go_at_call 45; exact Calls.quiet_of_same (rest_any n _)))
  go_wp2
  go_ret
  exact ⟨rfl, _, rfl⟩
theorem ret_u8 {a b : Int} (h : a = b) : Ending.returned (.int .u8 a) = .returned (.int .u8 b) := by rw [h]
set_option maxHeartbeats 400000 in
theorem add_any (a b : Int) (a0 : 0 ≤ a) (a1 : a ≤ 255) (b0 : 0 ≤ b) (b1 : b ≤ 255) (w : World) :
    Calls Try.prog 49 #[.int .u8 a, .int .u8 b] w fun e w' => e = .returned (.int .u8 (a.toNat ^^^ b.toNat : Nat)) ∧ w' = w := by
  have h := u8_xor a b a0 (by omega) b0 (by omega)
  have H := Lib.hid h; clear h
  go_enter Try.func49, Try.ntmps49
  go_wp2
  go_ret
  exact ⟨ret_u8 H.out, rfl⟩
set_option maxHeartbeats 400000 in
theorem mul_zero (b : Nat) (x y : Int) (x0 : 0 ≤ x) (y0 : 0 ≤ y) (h : x = 0 ∨ y = 0) (w : World) :
    Calls Try.prog 50 #[.pointer (some ⟨b, 0, none⟩), .int .u8 x, .int .u8 y] w fun e w' => e = .returned (.int .u8 (gm x.toNat y.toNat : Nat)) ∧ ∃ m, w' = w.drewN m := by
  have hg : gm x.toNat y.toNat = 0 := by rw [gm, if_pos (by omega)]
  rw [hg]; clear hg
  by_cases hx : x = 0
  · subst hx
    go_enter Try.func50, Try.ntmps50
    go_wp2
    go_ret
    exact ⟨rfl, 0, rfl⟩
  · obtain rfl : y = 0 := by omega
    have hx' : (x == 0) = false := by simpa using hx
    clear h hx
    go_enter Try.func50, Try.ntmps50
    go_wp2
    go_ret
    exact ⟨rfl, 0, rfl⟩
set_option maxHeartbeats 400000 in
theorem mul_some (b : Nat) (x y : Int) (x0 : 1 ≤ x) (x1 : x ≤ 255) (y0 : 1 ≤ y) (y1 : y ≤ 255) (w : World) (hF : IsF w b) :
    Calls Try.prog 50 #[.pointer (some ⟨b, 0, none⟩), .int .u8 x, .int .u8 y] w fun e w' => e = .returned (.int .u8 (gm x.toNat y.toNat : Nat)) ∧ ∃ m, w' = w.drewN m := by
  have hg : gm x.toNat y.toNat = pw ((lg x.toNat + lg y.toNat) % 255) := by rw [gm, if_neg (by omega)]
  have hx' : (x == 0) = false := by simp; omega
  have hy' : (y == 0) = false := by simp; omega
  have lx := lg_le x.toNat (by omega)
  have ly := lg_le y.toNat (by omega)
  have HF := Lib.hid hF; clear hF
  have HG := Lib.hid hg; clear hg
  go_enter Try.func50, Try.ntmps50
  go_wp2_with fail
  refine (exponent_any b x (by omega) (by omega) _ HF.out).mono ?_
  rintro e w' ⟨rfl, rfl⟩
  go_wp2_with fail
  refine (exponent_any b y (by omega) (by omega) _ HF.out).mono ?_
  rintro e w' ⟨rfl, rfl⟩
  go_wp2_with fail
  refine (exp_any b _ _ HF.out).mono ?_
  rintro e w' ⟨rfl, m, rfl⟩
  go_wp2_with fail
  go_ret
  refine ⟨ret_u8 ?_, m, rfl⟩
  rw [HG.out, ex]; congr 2
theorem mul_any (b : Nat) (x y : Int) (x0 : 0 ≤ x) (x1 : x ≤ 255) (y0 : 0 ≤ y) (y1 : y ≤ 255) (w : World) (hF : IsF w b) :
    Calls Try.prog 50 #[.pointer (some ⟨b, 0, none⟩), .int .u8 x, .int .u8 y] w fun e w' => e = .returned (.int .u8 (gm x.toNat y.toNat : Nat)) ∧ ∃ m, w' = w.drewN m := by
  by_cases h : x = 0 ∨ y = 0
  · exact mul_zero b x y x0 y0 h w
  · exact mul_some b x y (by omega) x1 (by omega) y1 w hF
set_option maxHeartbeats 400000 in
theorem div_zero (b : Nat) (x : Int) (w : World) :
    Calls Try.prog 51 #[.pointer (some ⟨b, 0, none⟩), .int .u8 x, .int .u8 0] w fun e w' => e = .returned (.tuple #[.int .u8 0, .bool false]) ∧ w' = w := by
  go_enter Try.func51, Try.ntmps51
  go_wp2
  go_ret2
  exact ⟨rfl, rfl⟩
set_option maxHeartbeats 400000 in
theorem div_some (b : Nat) (x y : Int) (x0 : 0 ≤ x) (x1 : x ≤ 255) (y0 : 1 ≤ y) (y1 : y ≤ 255) (w : World) (hF : IsF w b) :
    Calls Try.prog 51 #[.pointer (some ⟨b, 0, none⟩), .int .u8 x, .int .u8 y] w fun e w' => e = .returned (.tuple #[.int .u8 (gd x.toNat y.toNat : Nat), .bool true]) ∧ ∃ m, w' = w.drewN m := by
  have hy' : (y == 0) = false := by simp; omega
  have HF := Lib.hid hF; clear hF
  by_cases hx : x = 0
  · subst hx
    have hg : gd (0 : Int).toNat y.toNat = 0 := rfl
    rw [hg]; clear hg
    go_enter Try.func51, Try.ntmps51
    go_wp2
    go_ret2
    exact ⟨rfl, 0, rfl⟩
  · have hx' : (x == 0) = false := by simpa using hx
    have hg : gd x.toNat y.toNat = pw ((lg x.toNat + 255 - lg y.toNat) % 255) := by rw [gd, if_neg (by omega)]
    have lx := lg_le x.toNat (by omega)
    have ly := lg_le y.toNat (by omega)
    have HG := Lib.hid hg; clear hg
    clear hx
    go_enter Try.func51, Try.ntmps51
    go_wp2_with fail
    refine (exponent_any b x (by omega) (by omega) _ HF.out).mono ?_
    rintro e w' ⟨rfl, rfl⟩
    go_wp2_with fail
    refine (exponent_any b y (by omega) (by omega) _ HF.out).mono ?_
    rintro e w' ⟨rfl, rfl⟩
    go_wp2_with fail
    refine (exp_any b _ _ HF.out).mono ?_
    rintro e w' ⟨rfl, m, rfl⟩
    go_wp2_with fail
    go_ret2
    refine ⟨?_, m, rfl⟩
    have e1 : (((lg x.toNat : Int) - (lg y.toNat : Int)) % 255).toNat = (lg x.toNat + 255 - lg y.toNat) % 255 := by omega
    simp only [ex, e1, HG.out]
    rfl
set_option maxHeartbeats 400000 in
theorem pow_any (b : Nat) (x n : Int) (x0 : 0 ≤ x) (x1 : x ≤ 255) (w : World) (hF : IsF w b) :
    Calls Try.prog 33 #[.pointer (some ⟨b, 0, none⟩), .int .u8 x, .int .i64 n] w fun e w' => e = .returned (.int .u8 (gp x.toNat n : Nat)) ∧ ∃ m, w' = w.drewN m := by
  have HF := Lib.hid hF; clear hF
  by_cases hn : n = 0
  · subst hn
    have hg : gp x.toNat 0 = 1 := rfl
    rw [hg]; clear hg
    go_enter Try.func33, Try.ntmps33
    go_wp2
    go_ret
    exact ⟨rfl, 0, rfl⟩
  have hn' : (n == 0) = false := by simpa using hn
  by_cases hx : x = 0
  · subst hx
    have hg : gp (0 : Int).toNat n = 0 := by rw [gp, if_neg hn]; rfl
    rw [hg]; clear hg hn
    go_enter Try.func33, Try.ntmps33
    go_wp2
    go_ret
    exact ⟨rfl, 0, rfl⟩
  have hx' : (x == 0) = false := by simpa using hx
  have hg : gp x.toNat n = pw (((lg x.toNat : Int) * (n % 255)) % 255).toNat := by rw [gp, if_neg hn, if_neg (by omega)]
  have HG := Lib.hid hg; clear hg
  have lx := lg_le x.toNat (by omega)
  have r0 : 0 ≤ n % 255 := by omega
  have r1 : n % 255 < 255 := by omega
  have m0 : 0 ≤ (lg x.toNat : Int) * (n % 255) := Int.mul_nonneg (by omega) r0
  have m1 : (lg x.toNat : Int) * (n % 255) ≤ 254 * 254 := Int.mul_le_mul (by omega) (by omega) r0 (by omega)
  clear hn hx
  go_enter Try.func33, Try.ntmps33
  go_wp2_with fail
  refine (exponent_any b x (by omega) (by omega) _ HF.out).mono ?_
  rintro e w' ⟨rfl, rfl⟩
  go_wp2_with fail
  refine (rest_any n _).mono ?_
  rintro e w' ⟨rfl, rfl⟩
  go_wp2_with fail
  refine (exp_any b _ _ HF.out).mono ?_
  rintro e w' ⟨rfl, m, rfl⟩
  go_wp2_with fail
  go_ret
  exact ⟨ret_u8 (by rw [HG.out]; rfl), m, rfl⟩
end Go.Proofs.Ytkgfkchdbbeljaa.Gf
