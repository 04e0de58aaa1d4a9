/-
  Of any seat: floats of 64 bits that stand for whole numbers below 2^53: sums, differences, products and conversions of them are exact; complex numbers of such.
-/
import Derived.Test.YtimllihegnokeaaRows
import Derived.Laws.ComplexArith
import Derived.Lib.Hide
namespace Go.Proofs.Ytimllihegnokeaa.Ov
open Ieee

theorem log2_shift {v : Nat} (hv : v ≠ 0) (k : Nat) : (v * 2 ^ k).log2 = v.log2 + k := by
  have h2 : 0 < 2 ^ k := Nat.two_pow_pos k
  rw [Nat.log2_eq_iff (Nat.mul_ne_zero hv (Nat.ne_of_gt h2))]
  refine ⟨?_, ?_⟩
  · rw [Nat.pow_add]; exact Nat.mul_le_mul_right _ (Nat.log2_self_le hv)
  · rw [show v.log2 + k + 1 = v.log2 + 1 + k by omega, Nat.pow_add]; exact Nat.mul_lt_mul_of_pos_right Nat.lt_log2_self h2
/-- What is whole is not cut, whichever way. -/
theorem cut_whole (way : Toward) (s : Bool) (v k : Nat) : way.cut s (v * 2 ^ k) k = v := by
  have h2 : 0 < 2 ^ k := Nat.two_pow_pos k
  have hg : (v * 2 ^ k) / (1 <<< min k ((v * 2 ^ k).log2 + 2)) = v ∧ (v * 2 ^ k) % (1 <<< min k ((v * 2 ^ k).log2 + 2)) = 0 ∧ 1 <<< min k ((v * 2 ^ k).log2 + 2) ≠ 0 := by
    by_cases hv : v = 0
    · subst hv; simp
    · rw [log2_shift hv, Nat.min_eq_left (by omega), Nat.one_shiftLeft]
      exact ⟨Nat.mul_div_cancel _ h2, Nat.mul_mod_left _ _, Nat.ne_of_gt h2⟩
  obtain ⟨h1, h3, h4⟩ := hg
  unfold Toward.cut
  simp only [h1, h3]
  generalize 1 <<< min k ((v * 2 ^ k).log2 + 2) = g at *
  cases way <;> simp [h4]
/-- A datum that stands for a whole number. -/
def DIs (d : Datum) (n : Int) : Prop := ∃ (s : Bool) (v k : Nat), d = .number s (v * 2 ^ k) (-(k : Int)) ∧ n = if s then -(v : Int) else v
theorem DIs.num (s : Bool) (v k : Nat) : DIs (.number s (v * 2 ^ k) (-(k : Int))) (if s then -(v : Int) else v) := ⟨s, v, k, rfl, rfl⟩
theorem dsw : Ieee.double.signWeight = 9223372036854775808 := by decide +kernel
theorem dbi : Ieee.double.binade = 4503599627370496 := by decide +kernel
theorem din : Ieee.double.infRung = 9218868437227405312 := by decide +kernel
theorem dlp : Ieee.double.leastPlace = -1074 := by decide +kernel
theorem dfb : Ieee.double.fractionBits = 52 := rfl
theorem rung_mod {e m B : Nat} (h : m < B) : (e * B + (B + m)) % B = m ∧ (e * B + (B + m)) / B - 1 = e := by
  have e1 : e * B + (B + m) = m + (e + 1) * B := by rw [Nat.add_mul, Nat.one_mul]; omega
  rw [e1, Nat.add_mul_mod_self_right, Nat.mod_eq_of_lt h, Nat.add_mul_div_right _ _ (by omega), Nat.div_eq_of_lt h]
  exact ⟨rfl, by omega⟩
theorem read_word (s : Bool) (e m : Nat) (he : e < 2046) (hm : m < 4503599627370496) :
    Ieee.double.read (Ieee.double.word s (e * 4503599627370496 + (4503599627370496 + m))) = .number s (4503599627370496 + m) (-1074 + (e : Int)) := by
  have hw : Ieee.double.word s (e * 4503599627370496 + (4503599627370496 + m)) = (if s then 1 else 0) * 9223372036854775808 + (e * 4503599627370496 + (4503599627370496 + m)) := by
    unfold Format.word; rw [dsw]; cases s <;> simp
  unfold Format.read
  simp only [hw, dsw, dbi, din, dlp]
  obtain ⟨b, hb⟩ : ∃ b : Nat, b = if s then 1 else 0 := ⟨_, rfl⟩
  rw [← hb]
  have hb1 : b < 2 ∧ (b = 1 ↔ s = true) := by subst hb; cases s <;> simp
  clear hw hb
  have h1 : (b * 9223372036854775808 + (e * 4503599627370496 + (4503599627370496 + m))) % 9223372036854775808 = e * 4503599627370496 + (4503599627370496 + m) := by omega
  have h2 : ((b * 9223372036854775808 + (e * 4503599627370496 + (4503599627370496 + m))) / 9223372036854775808 % 2 == 1) = s := by
    have : (b * 9223372036854775808 + (e * 4503599627370496 + (4503599627370496 + m))) / 9223372036854775808 % 2 = b := by omega
    rw [this, Bool.eq_iff_iff, beq_iff_eq]; exact hb1.2
  rw [h1, h2, if_neg (by omega), if_pos (by omega)]
  obtain ⟨h3, h4⟩ := rung_mod (e := e) hm
  rw [h3, h4]
theorem read_zero (s : Bool) : Ieee.double.read (Ieee.double.word s 0) = .number s 0 (-1074) := by
  cases s <;> decide +kernel
/-- What is whole and below 2^53 is written as it is. -/
theorem nearest_read (s : Bool) (v k : Nat) (hv : v < 9007199254740992) : ∃ j : Nat, Ieee.double.read (Ieee.double.nearest s (v * 2 ^ k) (-(k : Int))) = .number s (v * 2 ^ j) (-(j : Int)) := by
  by_cases h0 : v = 0
  · subst h0
    obtain ⟨j, hj⟩ : ∃ j : Nat, -(j : Int) = -1074 := ⟨1074, rfl⟩
    refine ⟨j, ?_⟩
    rw [Nat.zero_mul, Nat.zero_mul, hj]
    exact read_zero s
  · have hL : v.log2 < 53 := (Nat.log2_lt h0).2 hv
    obtain ⟨d, hd⟩ : ∃ d, d = 52 - v.log2 := ⟨_, rfl⟩
    have hp : 0 < 2 ^ k := Nat.two_pow_pos k
    have hne : v * 2 ^ k ≠ 0 := Nat.mul_ne_zero h0 (Nat.ne_of_gt hp)
    have hlo : 4503599627370496 ≤ v * 2 ^ d := by
      have h1 : 2 ^ v.log2 * 2 ^ d ≤ v * 2 ^ d := Nat.mul_le_mul_right _ (Nat.log2_self_le h0)
      rw [← Nat.pow_add, show v.log2 + d = 52 by omega] at h1; exact h1
    have hhi : v * 2 ^ d < 9007199254740992 := by
      have h1 : v * 2 ^ d < 2 ^ (v.log2 + 1) * 2 ^ d := Nat.mul_lt_mul_of_pos_right Nat.lt_log2_self (Nat.two_pow_pos d)
      rw [← Nat.pow_add, show v.log2 + 1 + d = 53 by omega] at h1; exact h1
    refine ⟨d, ?_⟩
    have hlast : max (-(k : Int) + ((v * 2 ^ k).log2 : Nat) - (Ieee.double.fractionBits : Nat)) Ieee.double.leastPlace = -(d : Int) := by
      rw [log2_shift h0, dfb, dlp]; omega
    have hk : Toward.even.cut s ((v * 2 ^ k) <<< (-(k : Int) - -(d : Int)).toNat) (-(d : Int) - -(k : Int)).toNat = v * 2 ^ d := by
      rcases Nat.le_total k d with h | h
      · rw [show (-(d : Int) - -(k : Int)).toNat = 0 by omega, show (-(k : Int) - -(d : Int)).toNat = d - k by omega, Nat.shiftLeft_eq, Nat.mul_assoc, ← Nat.pow_add, show k + (d - k) = d by omega]
        have := cut_whole .even s (v * 2 ^ d) 0
        rwa [Nat.pow_zero, Nat.mul_one] at this
      · rw [show (-(d : Int) - -(k : Int)).toNat = k - d by omega, show (-(k : Int) - -(d : Int)).toNat = 0 by omega, Nat.shiftLeft_zero]
        have := cut_whole .even s (v * 2 ^ d) (k - d)
        rwa [Nat.mul_assoc, ← Nat.pow_add, show d + (k - d) = k by omega] at this
    unfold Format.nearest
    simp only [if_neg hne]
    rw [hlast, hk, dlp, dbi, din]
    obtain ⟨m, hm⟩ : ∃ m, v * 2 ^ d = 4503599627370496 + m := ⟨v * 2 ^ d - 4503599627370496, by omega⟩
    rw [hm, show (-(d : Int) - -1074).toNat = 1074 - d by omega, Nat.min_eq_left (by omega), read_word s (1074 - d) m (by omega) (by omega)]
    have : -1074 + ((1074 - d : Nat) : Int) = -(d : Int) := by omega
    rw [this]
theorem DIs.write {d : Datum} {n : Int} (h : DIs d n) (hn : n.natAbs < 9007199254740992) : DIs (Ieee.double.read (Ieee.double.write d)) n := by
  obtain ⟨s, v, k, rfl, rfl⟩ := h
  obtain ⟨j, hj⟩ := nearest_read s v k (by cases s <;> simpa using hn)
  exact ⟨s, v, j, hj, rfl⟩
theorem signed_whole (s : Bool) (v i k : Nat) (h : i ≤ k) : signed s (v * 2 ^ i) (k - i) = (if s then -(v : Int) else v) * ((2 ^ k : Nat) : Int) := by
  unfold signed
  rw [Nat.shiftLeft_eq, Nat.mul_assoc, ← Nat.pow_add, show i + (k - i) = k by omega]
  cases s <;> simp [Int.neg_mul]
theorem DIs.opposite {d : Datum} {n : Int} (h : DIs d n) : DIs d.opposite (-n) := by
  obtain ⟨s, v, k, rfl, rfl⟩ := h
  refine ⟨!s, v, k, rfl, ?_⟩
  cases s <;> simp
theorem DIs.sum {d e : Datum} {n m : Int} (h : DIs d n) (g : DIs e m) : ∃ x, d.sum e = some x ∧ DIs x (n + m) := by
  obtain ⟨s, v, i, rfl, hn⟩ := h
  obtain ⟨t, u, j, rfl, hm⟩ := g
  obtain ⟨k, hk⟩ : ∃ k, k = max i j := ⟨_, rfl⟩
  have hb : min (-(i : Int)) (-(j : Int)) = -(k : Int) := by omega
  have h1 : (-(i : Int) - -(k : Int)).toNat = k - i := by omega
  have h2 : (-(j : Int) - -(k : Int)).toNat = k - j := by omega
  have hp : (0 : Int) < ((2 ^ k : Nat) : Int) := by have := Nat.two_pow_pos k; omega
  have ht : signed s (v * 2 ^ i) (k - i) + signed t (u * 2 ^ j) (k - j) = (n + m) * ((2 ^ k : Nat) : Int) := by
    rw [signed_whole s v i k (by omega), signed_whole t u j k (by omega), ← hn, ← hm, Int.add_mul]
  refine ⟨_, rfl, ?_⟩
  simp only [hb, h1, h2, ht]
  refine ⟨if (n + m) * ((2 ^ k : Nat) : Int) = 0 then s && t else decide ((n + m) * ((2 ^ k : Nat) : Int) < 0), (n + m).natAbs, k, ?_, ?_⟩
  · rw [Int.natAbs_mul, Int.natAbs_natCast]
  · by_cases h0 : n + m = 0
    · rw [h0]; simp
    · have hne : (n + m) * ((2 ^ k : Nat) : Int) ≠ 0 := Int.mul_ne_zero h0 (by omega)
      rw [if_neg hne]
      by_cases hl : n + m < 0
      · have : (n + m) * ((2 ^ k : Nat) : Int) < 0 := Int.mul_neg_of_neg_of_pos hl hp
        rw [if_pos (by simpa using this)]; omega
      · have : ¬ (n + m) * ((2 ^ k : Nat) : Int) < 0 := Int.not_lt.2 (Int.mul_nonneg (by omega) (by omega))
        rw [if_neg (by simpa using this)]; omega
theorem DIs.product {d e : Datum} {n m : Int} (h : DIs d n) (g : DIs e m) : ∃ x, d.product e = some x ∧ DIs x (n * m) := by
  obtain ⟨s, v, i, rfl, rfl⟩ := h
  obtain ⟨t, u, j, rfl, rfl⟩ := g
  refine ⟨_, rfl, s ^^ t, v * u, i + j, ?_, ?_⟩
  · congr 1
    · rw [Nat.pow_add]; exact Nat.mul_mul_mul_comm ..
    · omega
  · cases s <;> cases t <;> simp [Int.neg_mul, Int.mul_neg]
theorem DIs.toInt {d : Datum} {n : Int} (h : DIs d n) : d.toInt .zero = some n := by
  obtain ⟨s, v, k, rfl, rfl⟩ := h
  have e : Toward.zero.cut s ((v * 2 ^ k) <<< (-(k : Int)).toNat) (- -(k : Int)).toNat = v := by
    rw [show (-(k : Int)).toNat = 0 by omega, show (- -(k : Int)).toNat = k by omega, Nat.shiftLeft_zero]
    exact cut_whole .zero s v k
  unfold Datum.toInt Datum.integral
  simp only [e]
  unfold signed
  rw [Nat.shiftLeft_zero]

/-! ### The bits -/
/-- A float stands for a whole number. -/
def Is (b : Nat) (n : Int) : Prop := DIs (Ieee.double.read b) n
theorem Is.ofInt {n : Int} (h : n.natAbs < 9007199254740992) : Is (floatOfInt .f64 n) n := by
  refine DIs.write (d := .number (n < 0) n.natAbs 0) ⟨decide (n < 0), n.natAbs, 0, by simp, ?_⟩ h
  by_cases h0 : n < 0
  · rw [if_pos (by simpa using h0)]; omega
  · rw [if_neg (by simpa using h0)]; omega
theorem Is.zero : Is 0 0 := by
  show DIs (Ieee.double.read 0) 0
  obtain ⟨j, hj⟩ : ∃ j : Nat, -(j : Int) = -1074 := ⟨1074, rfl⟩
  have : Ieee.double.read 0 = .number false (0 * 2 ^ j) (-(j : Int)) := by rw [Nat.zero_mul, hj]; decide +kernel
  rw [this]; exact DIs.num false 0 j
theorem Is.one : Is 4607182418800017408 1 := by
  show DIs (Ieee.double.read 4607182418800017408) 1
  have : Ieee.double.read 4607182418800017408 = .number false (1 * 2 ^ 52) (-((52 : Nat) : Int)) := by decide +kernel
  rw [this]; exact DIs.num false 1 52
theorem Is.toInt {b : Nat} {n : Int} (h : Is b n) (lo : -9007199254740992 < n) (hi : n < 9007199254740992) : floatToIntVal .f64 b .i64 = some n := by
  have e : (FloatKind.f64.decode b).toInt .zero = some n := DIs.toInt h
  unfold floatToIntVal
  rw [e]
  have h1 : IntKind.i64.min ≤ n := by show (-9223372036854775808 : Int) ≤ n; omega
  have h2 : n ≤ IntKind.i64.max := by show n ≤ (9223372036854775807 : Int); omega
  simp only [h1, h2, and_self, if_true]
theorem Is.add {x y : Nat} {n m : Int} (h : Is x n) (g : Is y m) (hb : (n + m).natAbs < 9007199254740992) : ∃ r, floatBits .add .f64 x y = some r ∧ Is r (n + m) := by
  obtain ⟨d, hd, hi⟩ := DIs.sum h g
  refine ⟨Ieee.double.write d, ?_, hi.write hb⟩
  show ((Ieee.double.read x).sum (Ieee.double.read y)).map Ieee.double.write = _
  rw [hd]; rfl
theorem Is.sub {x y : Nat} {n m : Int} (h : Is x n) (g : Is y m) (hb : (n - m).natAbs < 9007199254740992) : ∃ r, floatBits .sub .f64 x y = some r ∧ Is r (n - m) := by
  obtain ⟨d, hd, hi⟩ := DIs.sum h (DIs.opposite g)
  rw [← Int.sub_eq_add_neg] at hi
  refine ⟨Ieee.double.write d, ?_, hi.write hb⟩
  show ((Ieee.double.read x).sum (Ieee.double.read y).opposite).map Ieee.double.write = _
  rw [hd]; rfl
theorem Is.mul {x y : Nat} {n m : Int} (h : Is x n) (g : Is y m) (hb : (n * m).natAbs < 9007199254740992) : ∃ r, floatBits .mul .f64 x y = some r ∧ Is r (n * m) := by
  obtain ⟨d, hd, hi⟩ := DIs.product h g
  refine ⟨Ieee.double.write d, ?_, hi.write hb⟩
  show ((Ieee.double.read x).product (Ieee.double.read y)).map Ieee.double.write = _
  rw [hd]; rfl
/-- A product of complex numbers with whole parts. -/
theorem cmul {a b c d : Nat} {x y u v : Int} (ha : Is a x) (hb : Is b y) (hc : Is c u) (hd : Is d v) (h1 : (x * u).natAbs < 4503599627370496) (h2 : (y * v).natAbs < 4503599627370496)
    (h3 : (x * v).natAbs < 4503599627370496) (h4 : (y * u).natAbs < 4503599627370496) : ∃ re im, cMulBits a b c d = some (re, im) ∧ Is re (x * u - y * v) ∧ Is im (x * v + y * u) := by
  obtain ⟨r1, e1, i1⟩ := ha.mul hc (by omega)
  obtain ⟨r2, e2, i2⟩ := hb.mul hd (by omega)
  obtain ⟨r3, e3, i3⟩ := i1.sub i2 (by omega)
  obtain ⟨r4, e4, i4⟩ := ha.mul hd (by omega)
  obtain ⟨r5, e5, i5⟩ := hb.mul hc (by omega)
  obtain ⟨r6, e6, i6⟩ := i4.add i5 (by omega)
  refine ⟨r3, r6, ?_, i3, i6⟩
  unfold cMulBits
  simp only [e1, e2, e3, e4, e5, e6, Option.bind_some]
/-- A difference of complex numbers with whole parts. -/
theorem csub {a b c d : Nat} {x y u v : Int} (ha : Is a x) (hb : Is b y) (hc : Is c u) (hd : Is d v) (h1 : (x - u).natAbs < 9007199254740992) (h2 : (y - v).natAbs < 9007199254740992) :
    ∃ re im, cSumBits .sub .f64 a b c d = some (re, im) ∧ Is re (x - u) ∧ Is im (y - v) := by
  obtain ⟨r1, e1, i1⟩ := ha.sub hc h1
  obtain ⟨r2, e2, i2⟩ := hb.sub hd h2
  refine ⟨r1, r2, ?_, i1, i2⟩
  unfold cSumBits
  simp only [e1, e2, Option.bind_some]
end Go.Proofs.Ytimllihegnokeaa.Ov
