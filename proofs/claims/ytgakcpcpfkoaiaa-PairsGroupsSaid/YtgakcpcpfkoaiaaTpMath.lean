/-
  Layer 5, plain: a number's bytes, reading them.
-/
import Derived.Test.YtgakcpcpfkoaiaaOvBase
namespace Go.Proofs.Ytgakcpcpfkoaiaa.Tp
open Go.ChangeShapes Go.WideShapes Go.ChangeAt Go.RowKit Go.Proofs.Ytgakcpcpfkoaiaa.Ov

/-- A number's bytes. -/
def nb (n : Nat) : List UInt8 := if n < 128 then [UInt8.ofNat n] else UInt8.ofNat (n % 128 + 128) :: nb (n / 128)
termination_by n
decreasing_by omega
theorem nb_lt {n : Nat} (h : n < 128) : nb n = [UInt8.ofNat n] := by rw [nb, if_pos h]
theorem nb_ge {n : Nat} (h : ¬ n < 128) : nb n = UInt8.ofNat (n % 128 + 128) :: nb (n / 128) := by rw [nb, if_neg h]
theorem nb_ne (n : Nat) : nb n ≠ [] := by
  by_cases h : n < 128
  · rw [nb_lt h]; simp
  · rw [nb_ge h]; simp
theorem nb_len (k n : Nat) (h : n < 128 ^ (k + 1)) : (nb n).length ≤ k + 1 := by
  induction k generalizing n with
  | zero => rw [nb_lt (by simpa using h)]; simp
  | succ k ih =>
    by_cases h1 : n < 128
    · rw [nb_lt h1]; simp
    · rw [nb_ge h1, List.length_cons]
      have := ih (n / 128) (Nat.div_lt_of_lt_mul (by rw [Nat.pow_succ] at h; omega))
      omega
theorem nb_len8 {n : Nat} (h : n ≤ 9007199254740991) : (nb n).length ≤ 8 := nb_len 7 n (by omega)
theorem u8_nat {n : Nat} (h : n < 256) : (UInt8.ofNat n).toNat = n := by
  rw [UInt8.toNat_ofNat']; omega
/-- The number that bytes begin with: it, what is behind it, an error; behind i bytes that make n. -/
def cn : Nat → Nat → List UInt8 → Nat × List UInt8 × Nat
  | _, _, [] => (0, [], 2)
  | i, n, b :: t =>
    if 128 ≤ b.toNat ∧ i + 1 < 8 then cn (i + 1) (n + b.toNat % 128 * 2 ^ (7 * i)) t
    else if 128 ≤ b.toNat ∨ (b.toNat = 0 ∧ 1 < i + 1) ∨ 9007199254740991 < n + b.toNat % 128 * 2 ^ (7 * i) then (0, [], 6)
    else (n + b.toNat % 128 * 2 ^ (7 * i), t, 0)
theorem cn_ok (i n : Nat) (l : List UInt8) (h : (cn i n l).2.2 = 0) : (cn i n l).2.1.length < l.length ∧ (cn i n l).1 ≤ 9007199254740991 := by
  induction l generalizing i n with
  | nil => simp [cn] at h
  | cons b t ih =>
    rw [cn] at h ⊢
    by_cases h1 : 128 ≤ b.toNat ∧ i + 1 < 8
    · rw [if_pos h1] at h ⊢
      have := ih _ _ h
      simp only [List.length_cons]; omega
    · rw [if_neg h1] at h ⊢
      by_cases h2 : 128 ≤ b.toNat ∨ (b.toNat = 0 ∧ 1 < i + 1) ∨ 9007199254740991 < n + b.toNat % 128 * 2 ^ (7 * i)
      · rw [if_pos h2] at h; simp at h
      · rw [if_neg h2]
        simp only [List.length_cons]; omega
theorem cn_err (i n : Nat) (l : List UInt8) (h : (cn i n l).2.2 ≠ 0) : (cn i n l).1 = 0 ∧ (cn i n l).2.1 = [] := by
  induction l generalizing i n with
  | nil => simp [cn]
  | cons b t ih =>
    rw [cn] at h ⊢
    by_cases h1 : 128 ≤ b.toNat ∧ i + 1 < 8
    · rw [if_pos h1] at h ⊢
      exact ih _ _ h
    · rw [if_neg h1] at h ⊢
      by_cases h2 : 128 ≤ b.toNat ∨ (b.toNat = 0 ∧ 1 < i + 1) ∨ 9007199254740991 < n + b.toNat % 128 * 2 ^ (7 * i)
      · rw [if_pos h2]; exact ⟨rfl, rfl⟩
      · rw [if_neg h2] at h; exact absurd rfl h
/-- What was laid is read again. -/
theorem cn_nb (x : Nat) : ∀ (i m : Nat) (t : List UInt8), (x = 0 → i = 0) → m + x * 2 ^ (7 * i) ≤ 9007199254740991 → cn i m (nb x ++ t) = (m + x * 2 ^ (7 * i), t, 0) := by
  induction x using Nat.strongRecOn with
  | _ x ih =>
    intro i m t h0 hm
    by_cases h : x < 128
    · rw [nb_lt h]
      show cn i m (UInt8.ofNat x :: t) = _
      rw [cn, u8_nat (by omega), if_neg (by omega), Nat.mod_eq_of_lt h, if_neg (by omega)]
    · rw [nb_ge h]
      show cn i m (UInt8.ofNat (x % 128 + 128) :: (nb (x / 128) ++ t)) = _
      have hi : i + 1 < 8 := by
        apply Nat.lt_of_not_le
        intro hi
        have h1 : 2 ^ 49 ≤ 2 ^ (7 * i) := Nat.pow_le_pow_right (by omega) (by omega)
        have h2 : 128 * 2 ^ 49 ≤ x * 2 ^ (7 * i) := Nat.mul_le_mul (by omega) h1
        omega
      have e1 : (x % 128 + 128) % 128 = x % 128 := by omega
      have e2 : 2 ^ (7 * (i + 1)) = 128 * 2 ^ (7 * i) := by
        rw [show 7 * (i + 1) = 7 + 7 * i by omega, Nat.pow_add]
      have e3 : m + x % 128 * 2 ^ (7 * i) + x / 128 * 2 ^ (7 * (i + 1)) = m + x * 2 ^ (7 * i) := by
        rw [e2, ← Nat.mul_assoc, Nat.add_assoc, ← Nat.add_mul, show x % 128 + x / 128 * 128 = x by omega]
      rw [cn, u8_nat (by omega), if_pos ⟨by omega, hi⟩, e1]
      rw [ih (x / 128) (by omega) (i + 1) _ t (by omega) (by rw [e3]; exact hm), e3]
theorem cn_laid (x : Nat) (t : List UInt8) (h : x ≤ 9007199254740991) : cn 0 0 (nb x ++ t) = (x, t, 0) := by
  have := cn_nb x 0 0 t (fun _ => rfl) (by simpa using h)
  simpa using this
/-- No number's bytes are the beginning of another's. -/
theorem nb_once {x y : Nat} (t : List UInt8) (hx : x ≤ 9007199254740991) (hy : y ≤ 9007199254740991) (h : nb y = nb x ++ t) : x = y := by
  have h1 := cn_laid x t hx
  have h2 := cn_laid y [] hy
  rw [List.append_nil, h, h1] at h2
  exact congrArg Prod.fst h2
/-- A whole number as a number. -/
def wn (n : Int) : Nat := if n < 0 then (-2 * n - 1).toNat else (2 * n).toNat
theorem wn_le {n : Int} (h1 : -4503599627370496 ≤ n) (h2 : n ≤ 4503599627370495) : wn n ≤ 9007199254740991 := by
  unfold wn; by_cases h : n < 0
  · rw [if_pos h]; omega
  · rw [if_neg h]; omega
/-- The whole number of a number. -/
def sg (n : Nat) : Int := if n % 2 = 1 then -(((n + 1) / 2 : Nat) : Int) else ((n / 2 : Nat) : Int)
theorem sg_wn (n : Int) : sg (wn n) = n := by
  unfold sg wn
  by_cases h : n < 0
  · rw [if_pos h, if_pos (by omega)]; omega
  · rw [if_neg h, if_neg (by omega)]; omega
end Go.Proofs.Ytgakcpcpfkoaiaa.Tp
