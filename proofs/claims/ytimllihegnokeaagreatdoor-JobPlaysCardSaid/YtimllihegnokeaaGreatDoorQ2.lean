/-
  Small texts of this claim, together: OvFloat, GaSmall, GaAdd, GaMul, GaNear, OvClone, OvBuild, OvBld, VaWrite, EvWds, CrMath, EvFuel, EvLocal, EvNam, JoAns, OvBuildK, OvJoin, JoPut, JoPut2, TpOne.
-/
import Derived.Test.YtimllihegnokeaaGreatDoorRows
import Derived.Laws.ComplexArith
import Derived.Lib.Hide
import Derived.Test.YtimllihegnokeaaGreatDoorQ1
import Derived.Shelf.Pu.Clone
import Derived.Shelf.Strings.Builder1
import Derived.WalkKit
import Derived.Maps.OwnSet
import Derived.Shelf.Strings.BuilderK
import Derived.Lib.OthersKept
import Derived.Shelf.Strings.OnBuilder
import Derived.RegionTactic
import Derived.ChangeAlike
namespace Go.Proofs.YtimllihegnokeaaGreatDoor.Ov
open Ieee
theorem log2_shift {v : Nat} (hv : v ≠ 0) (k : Nat) : (v * 2 ^ k).log2 = v.log2 + k := by
 have h2 : 0 < 2 ^ k := Nat.two_pow_pos k
 rw [Nat.log2_eq_iff (Nat.mul_ne_zero hv (Nat.ne_of_gt h2))]
 refine ⟨?_, ?_⟩
 · rw [Nat.pow_add]; exact Nat.mul_le_mul_right _ (Nat.log2_self_le hv)
 · rw [show v.log2 + k + 1 = v.log2 + 1 + k by omega, Nat.pow_add]; exact Nat.mul_lt_mul_of_pos_right Nat.lt_log2_self h2
theorem cut_whole (way : Toward) (s : Bool) (v k : Nat) : way.cut s (v * 2 ^ k) k = v := by
 have h2 : 0 < 2 ^ k := Nat.two_pow_pos k
 have hg : (v * 2 ^ k) / (1 <<< min k ((v * 2 ^ k).log2 + 2)) = v ∧ (v * 2 ^ k) % (1 <<< min k ((v * 2 ^ k).log2 + 2)) = 0 ∧ 1 <<< min k ((v * 2 ^ k).log2 + 2) ≠ 0 := by
  by_cases hv : v = 0
  · subst hv; simp
  · rw [log2_shift hv, Nat.min_eq_left (by omega), Nat.one_shiftLeft]
    exact ⟨Nat.mul_div_cancel _ h2, Nat.mul_mod_left _ _, Nat.ne_of_gt h2⟩
 obtain ⟨h1, h3, h4⟩ := hg
 unfold Toward.cut
 simp only [h1, h3]
 generalize 1 <<< min k ((v * 2 ^ k).log2 + 2) = g at *
 cases way <;> simp [h4]
def DIs (d : Datum) (n : Int) : Prop := ∃ (s : Bool) (v k : Nat), d = .number s (v * 2 ^ k) (-(k : Int)) ∧ n = if s then -(v : Int) else v
theorem DIs.num (s : Bool) (v k : Nat) : DIs (.number s (v * 2 ^ k) (-(k : Int))) (if s then -(v : Int) else v) := ⟨s, v, k, rfl, rfl⟩
theorem dsw : Ieee.double.signWeight = 9223372036854775808 := by decide +kernel
theorem dbi : Ieee.double.binade = 4503599627370496 := by decide +kernel
theorem din : Ieee.double.infRung = 9218868437227405312 := by decide +kernel
theorem dlp : Ieee.double.leastPlace = -1074 := by decide +kernel
theorem dfb : Ieee.double.fractionBits = 52 := rfl
theorem rung_mod {e m B : Nat} (h : m < B) : (e * B + (B + m)) % B = m ∧ (e * B + (B + m)) / B - 1 = e := by
 have e1 : e * B + (B + m) = m + (e + 1) * B := by rw [Nat.add_mul, Nat.one_mul]; omega
 rw [e1, Nat.add_mul_mod_self_right, Nat.mod_eq_of_lt h, Nat.add_mul_div_right _ _ (by omega), Nat.div_eq_of_lt h]
 exact ⟨rfl, by omega⟩
theorem read_word (s : Bool) (e m : Nat) (he : e < 2046) (hm : m < 4503599627370496) :
 Ieee.double.read (Ieee.double.word s (e * 4503599627370496 + (4503599627370496 + m))) = .number s (4503599627370496 + m) (-1074 + (e : Int)) := by
 have hw : Ieee.double.word s (e * 4503599627370496 + (4503599627370496 + m)) = (if s then 1 else 0) * 9223372036854775808 + (e * 4503599627370496 + (4503599627370496 + m)) := by
  unfold Format.word; rw [dsw]; cases s <;> simp
 unfold Format.read
 simp only [hw, dsw, dbi, din, dlp]
 obtain ⟨b, hb⟩ : ∃ b : Nat, b = if s then 1 else 0 := ⟨_, rfl⟩
 rw [← hb]
 have hb1 : b < 2 ∧ (b = 1 ↔ s = true) := by subst hb; cases s <;> simp
 clear hw hb
 have h1 : (b * 9223372036854775808 + (e * 4503599627370496 + (4503599627370496 + m))) % 9223372036854775808 = e * 4503599627370496 + (4503599627370496 + m) := by omega
 have h2 : ((b * 9223372036854775808 + (e * 4503599627370496 + (4503599627370496 + m))) / 9223372036854775808 % 2 == 1) = s := by
  have : (b * 9223372036854775808 + (e * 4503599627370496 + (4503599627370496 + m))) / 9223372036854775808 % 2 = b := by omega
  rw [this, Bool.eq_iff_iff, beq_iff_eq]; exact hb1.2
 rw [h1, h2, if_neg (by omega), if_pos (by omega)]
 obtain ⟨h3, h4⟩ := rung_mod (e := e) hm
 rw [h3, h4]
theorem read_zero (s : Bool) : Ieee.double.read (Ieee.double.word s 0) = .number s 0 (-1074) := by
 cases s <;> decide +kernel
theorem nearest_read (s : Bool) (v k : Nat) (hv : v < 9007199254740992) : ∃ j : Nat, Ieee.double.read (Ieee.double.nearest s (v * 2 ^ k) (-(k : Int))) = .number s (v * 2 ^ j) (-(j : Int)) := by
 by_cases h0 : v = 0
 · subst h0
   obtain ⟨j, hj⟩ : ∃ j : Nat, -(j : Int) = -1074 := ⟨1074, rfl⟩
   refine ⟨j, ?_⟩
   rw [Nat.zero_mul, Nat.zero_mul, hj]
   exact read_zero s
 · have hL : v.log2 < 53 := (Nat.log2_lt h0).2 hv
   obtain ⟨d, hd⟩ : ∃ d, d = 52 - v.log2 := ⟨_, rfl⟩
   have hp : 0 < 2 ^ k := Nat.two_pow_pos k
   have hne : v * 2 ^ k ≠ 0 := Nat.mul_ne_zero h0 (Nat.ne_of_gt hp)
   have hlo : 4503599627370496 ≤ v * 2 ^ d := by
    have h1 : 2 ^ v.log2 * 2 ^ d ≤ v * 2 ^ d := Nat.mul_le_mul_right _ (Nat.log2_self_le h0)
    rw [← Nat.pow_add, show v.log2 + d = 52 by omega] at h1; exact h1
   have hhi : v * 2 ^ d < 9007199254740992 := by
    have h1 : v * 2 ^ d < 2 ^ (v.log2 + 1) * 2 ^ d := Nat.mul_lt_mul_of_pos_right Nat.lt_log2_self (Nat.two_pow_pos d)
    rw [← Nat.pow_add, show v.log2 + 1 + d = 53 by omega] at h1; exact h1
   refine ⟨d, ?_⟩
   have hlast : max (-(k : Int) + ((v * 2 ^ k).log2 : Nat) - (Ieee.double.fractionBits : Nat)) Ieee.double.leastPlace = -(d : Int) := by
    rw [log2_shift h0, dfb, dlp]; omega
   have hk : Toward.even.cut s ((v * 2 ^ k) <<< (-(k : Int) - -(d : Int)).toNat) (-(d : Int) - -(k : Int)).toNat = v * 2 ^ d := by
    rcases Nat.le_total k d with h | h
    · rw [show (-(d : Int) - -(k : Int)).toNat = 0 by omega, show (-(k : Int) - -(d : Int)).toNat = d - k by omega, Nat.shiftLeft_eq, Nat.mul_assoc, ← Nat.pow_add, show k + (d - k) = d by omega]
      have := cut_whole .even s (v * 2 ^ d) 0
      rwa [Nat.pow_zero, Nat.mul_one] at this
    · rw [show (-(d : Int) - -(k : Int)).toNat = k - d by omega, show (-(k : Int) - -(d : Int)).toNat = 0 by omega, Nat.shiftLeft_zero]
      have := cut_whole .even s (v * 2 ^ d) (k - d)
      rwa [Nat.mul_assoc, ← Nat.pow_add, show d + (k - d) = k by omega] at this
   unfold Format.nearest
   simp only [if_neg hne]
   rw [hlast, hk, dlp, dbi, din]
   obtain ⟨m, hm⟩ : ∃ m, v * 2 ^ d = 4503599627370496 + m := ⟨v * 2 ^ d - 4503599627370496, by omega⟩
   rw [hm, show (-(d : Int) - -1074).toNat = 1074 - d by omega, Nat.min_eq_left (by omega), read_word s (1074 - d) m (by omega) (by omega)]
   have : -1074 + ((1074 - d : Nat) : Int) = -(d : Int) := by omega
   rw [this]
theorem DIs.write {d : Datum} {n : Int} (h : DIs d n) (hn : n.natAbs < 9007199254740992) : DIs (Ieee.double.read (Ieee.double.write d)) n := by
 obtain ⟨s, v, k, rfl, rfl⟩ := h
 obtain ⟨j, hj⟩ := nearest_read s v k (by cases s <;> simpa using hn)
 exact ⟨s, v, j, hj, rfl⟩
theorem signed_whole (s : Bool) (v i k : Nat) (h : i ≤ k) : signed s (v * 2 ^ i) (k - i) = (if s then -(v : Int) else v) * ((2 ^ k : Nat) : Int) := by
 unfold signed
 rw [Nat.shiftLeft_eq, Nat.mul_assoc, ← Nat.pow_add, show i + (k - i) = k by omega]
 cases s <;> simp [Int.neg_mul]
theorem DIs.opposite {d : Datum} {n : Int} (h : DIs d n) : DIs d.opposite (-n) := by
 obtain ⟨s, v, k, rfl, rfl⟩ := h
 refine ⟨!s, v, k, rfl, ?_⟩
 cases s <;> simp
theorem DIs.sum {d e : Datum} {n m : Int} (h : DIs d n) (g : DIs e m) : ∃ x, d.sum e = some x ∧ DIs x (n + m) := by
 obtain ⟨s, v, i, rfl, hn⟩ := h
 obtain ⟨t, u, j, rfl, hm⟩ := g
 obtain ⟨k, hk⟩ : ∃ k, k = max i j := ⟨_, rfl⟩
 have hb : min (-(i : Int)) (-(j : Int)) = -(k : Int) := by omega
 have h1 : (-(i : Int) - -(k : Int)).toNat = k - i := by omega
 have h2 : (-(j : Int) - -(k : Int)).toNat = k - j := by omega
 have hp : (0 : Int) < ((2 ^ k : Nat) : Int) := by have := Nat.two_pow_pos k; omega
 have ht : signed s (v * 2 ^ i) (k - i) + signed t (u * 2 ^ j) (k - j) = (n + m) * ((2 ^ k : Nat) : Int) := by
  rw [signed_whole s v i k (by omega), signed_whole t u j k (by omega), ← hn, ← hm, Int.add_mul]
 refine ⟨_, rfl, ?_⟩
 simp only [hb, h1, h2, ht]
 refine ⟨if (n + m) * ((2 ^ k : Nat) : Int) = 0 then s && t else decide ((n + m) * ((2 ^ k : Nat) : Int) < 0), (n + m).natAbs, k, ?_, ?_⟩
 · rw [Int.natAbs_mul, Int.natAbs_natCast]
 · by_cases h0 : n + m = 0
   · rw [h0]; simp
   · have hne : (n + m) * ((2 ^ k : Nat) : Int) ≠ 0 := Int.mul_ne_zero h0 (by omega)
     rw [if_neg hne]
     by_cases hl : n + m < 0
     · have : (n + m) * ((2 ^ k : Nat) : Int) < 0 := Int.mul_neg_of_neg_of_pos hl hp
       rw [if_pos (by simpa using this)]; omega
     · have : ¬ (n + m) * ((2 ^ k : Nat) : Int) < 0 := Int.not_lt.2 (Int.mul_nonneg (by omega) (by omega))
       rw [if_neg (by simpa using this)]; omega
theorem DIs.product {d e : Datum} {n m : Int} (h : DIs d n) (g : DIs e m) : ∃ x, d.product e = some x ∧ DIs x (n * m) := by
 obtain ⟨s, v, i, rfl, rfl⟩ := h
 obtain ⟨t, u, j, rfl, rfl⟩ := g
 refine ⟨_, rfl, s ^^ t, v * u, i + j, ?_, ?_⟩
 · congr 1
   · rw [Nat.pow_add]; exact Nat.mul_mul_mul_comm ..
   · omega
 · cases s <;> cases t <;> simp [Int.neg_mul, Int.mul_neg]
theorem DIs.toInt {d : Datum} {n : Int} (h : DIs d n) : d.toInt .zero = some n := by
 obtain ⟨s, v, k, rfl, rfl⟩ := h
 have e : Toward.zero.cut s ((v * 2 ^ k) <<< (-(k : Int)).toNat) (- -(k : Int)).toNat = v := by
  rw [show (-(k : Int)).toNat = 0 by omega, show (- -(k : Int)).toNat = k by omega, Nat.shiftLeft_zero]
  exact cut_whole .zero s v k
 unfold Datum.toInt Datum.integral
 simp only [e]
 unfold signed
 rw [Nat.shiftLeft_zero]
def Is (b : Nat) (n : Int) : Prop := DIs (Ieee.double.read b) n
theorem Is.ofInt {n : Int} (h : n.natAbs < 9007199254740992) : Is (floatOfInt .f64 n) n := by
 refine DIs.write (d := .number (n < 0) n.natAbs 0) ⟨decide (n < 0), n.natAbs, 0, by simp, ?_⟩ h
 by_cases h0 : n < 0
 · rw [if_pos (by simpa using h0)]; omega
 · rw [if_neg (by simpa using h0)]; omega
theorem Is.zero : Is 0 0 := by
 show DIs (Ieee.double.read 0) 0
 obtain ⟨j, hj⟩ : ∃ j : Nat, -(j : Int) = -1074 := ⟨1074, rfl⟩
 have : Ieee.double.read 0 = .number false (0 * 2 ^ j) (-(j : Int)) := by rw [Nat.zero_mul, hj]; decide +kernel
 rw [this]; exact DIs.num false 0 j
theorem Is.one : Is 4607182418800017408 1 := by
 show DIs (Ieee.double.read 4607182418800017408) 1
 have : Ieee.double.read 4607182418800017408 = .number false (1 * 2 ^ 52) (-((52 : Nat) : Int)) := by decide +kernel
 rw [this]; exact DIs.num false 1 52
theorem Is.toInt {b : Nat} {n : Int} (h : Is b n) (lo : -9007199254740992 < n) (hi : n < 9007199254740992) : floatToIntVal .f64 b .i64 = some n := by
 have e : (FloatKind.f64.decode b).toInt .zero = some n := DIs.toInt h
 unfold floatToIntVal
 rw [e]
 have h1 : IntKind.i64.min ≤ n := by show (-9223372036854775808 : Int) ≤ n; omega
 have h2 : n ≤ IntKind.i64.max := by show n ≤ (9223372036854775807 : Int); omega
 simp only [h1, h2, and_self, if_true]
theorem Is.add {x y : Nat} {n m : Int} (h : Is x n) (g : Is y m) (hb : (n + m).natAbs < 9007199254740992) : ∃ r, floatBits .add .f64 x y = some r ∧ Is r (n + m) := by
 obtain ⟨d, hd, hi⟩ := DIs.sum h g
 refine ⟨Ieee.double.write d, ?_, hi.write hb⟩
 show ((Ieee.double.read x).sum (Ieee.double.read y)).map Ieee.double.write = _
 rw [hd]; rfl
theorem Is.sub {x y : Nat} {n m : Int} (h : Is x n) (g : Is y m) (hb : (n - m).natAbs < 9007199254740992) : ∃ r, floatBits .sub .f64 x y = some r ∧ Is r (n - m) := by
 obtain ⟨d, hd, hi⟩ := DIs.sum h (DIs.opposite g)
 rw [← Int.sub_eq_add_neg] at hi
 refine ⟨Ieee.double.write d, ?_, hi.write hb⟩
 show ((Ieee.double.read x).sum (Ieee.double.read y).opposite).map Ieee.double.write = _
 rw [hd]; rfl
theorem Is.mul {x y : Nat} {n m : Int} (h : Is x n) (g : Is y m) (hb : (n * m).natAbs < 9007199254740992) : ∃ r, floatBits .mul .f64 x y = some r ∧ Is r (n * m) := by
 obtain ⟨d, hd, hi⟩ := DIs.product h g
 refine ⟨Ieee.double.write d, ?_, hi.write hb⟩
 show ((Ieee.double.read x).product (Ieee.double.read y)).map Ieee.double.write = _
 rw [hd]; rfl
theorem cmul {a b c d : Nat} {x y u v : Int} (ha : Is a x) (hb : Is b y) (hc : Is c u) (hd : Is d v) (h1 : (x * u).natAbs < 4503599627370496) (h2 : (y * v).natAbs < 4503599627370496)
 (h3 : (x * v).natAbs < 4503599627370496) (h4 : (y * u).natAbs < 4503599627370496) : ∃ re im, cMulBits a b c d = some (re, im) ∧ Is re (x * u - y * v) ∧ Is im (x * v + y * u) := by
 obtain ⟨r1, e1, i1⟩ := ha.mul hc (by omega)
 obtain ⟨r2, e2, i2⟩ := hb.mul hd (by omega)
 obtain ⟨r3, e3, i3⟩ := i1.sub i2 (by omega)
 obtain ⟨r4, e4, i4⟩ := ha.mul hd (by omega)
 obtain ⟨r5, e5, i5⟩ := hb.mul hc (by omega)
 obtain ⟨r6, e6, i6⟩ := i4.add i5 (by omega)
 refine ⟨r3, r6, ?_, i3, i6⟩
 unfold cMulBits
 simp only [e1, e2, e3, e4, e5, e6, Option.bind_some]
theorem csub {a b c d : Nat} {x y u v : Int} (ha : Is a x) (hb : Is b y) (hc : Is c u) (hd : Is d v) (h1 : (x - u).natAbs < 9007199254740992) (h2 : (y - v).natAbs < 9007199254740992) :
 ∃ re im, cSumBits .sub .f64 a b c d = some (re, im) ∧ Is re (x - u) ∧ Is im (y - v) := by
 obtain ⟨r1, e1, i1⟩ := ha.sub hc h1
 obtain ⟨r2, e2, i2⟩ := hb.sub hd h2
 refine ⟨r1, r2, ?_, i1, i2⟩
 unfold cSumBits
 simp only [e1, e2, Option.bind_some]
end Go.Proofs.YtimllihegnokeaaGreatDoor.Ov
namespace Go.Proofs.YtimllihegnokeaaGreatDoor.Ga
open Go.ChangeShapes Go.WideShapes Go.ChangeAt Go.RowKit Ov
theorem complex_any (x y : Int) (w : World) : Calls Tryz.prog 189 #[.agg #[.int .i64 x, .int .i64 y]] w fun e w' => e = .returned (.complex .f64 (floatOfInt .f64 x) (floatOfInt .f64 y)) ∧ Below w.heap.size w w' := by
 go_enter Tryz.func189, Tryz.ntmps189
 go_wp2_with (fail)
 go_ret
 exact ⟨rfl, (Below.refl _ _).alloc (Nat.le_refl _) _⟩
theorem spot_any {re im : Nat} {x y : Int} (hx : Is re x) (hy : Is im y) (bx : -9007199254740992 < x ∧ x < 9007199254740992) (by_ : -9007199254740992 < y ∧ y < 9007199254740992) (w : World) :
 Calls Tryz.prog 188 #[.complex .f64 re im] w fun e w' => e = .returned (.agg #[.int .i64 x, .int .i64 y]) ∧ Below w.heap.size w w' := by
 have r1 : ∀ w : World, (convert 243 3 (.float .f64 re)).run Tryz.prog w = .ok (.int .i64 x) w := fun w => run_convert_float_int w 243 3 .f64 .i64 re x (by rw [Tryz.underlying243]; rfl) Tryz.underlying3 (hx.toInt bx.1 bx.2)
 have r2 : ∀ w : World, (convert 243 3 (.float .f64 im)).run Tryz.prog w = .ok (.int .i64 y) w := fun w => run_convert_float_int w 243 3 .f64 .i64 im y (by rw [Tryz.underlying243]; rfl) Tryz.underlying3 (hy.toInt by_.1 by_.2)
 clear hx hy bx by_
 go_enter Tryz.func188, Tryz.ntmps188
 go_wp2_with (fail)
 refine bodyPost_ret (v := .agg #[.int .i64 x, .int .i64 y]) (by simp [results, Tryz.results188, go_sem]) rfl ⟨rfl, ?_⟩
 exact (Below.refl _ _).alloc (Nat.le_refl _) _
theorem mirror_any {x y : Int} (by_ : -16777216 ≤ y ∧ y ≤ 16777216) (w : World) : Calls Tryz.prog 190 #[.agg #[.int .i64 x, .int .i64 y]] w fun e w' => e = .returned (.agg #[.int .i64 x, .int .i64 (-y)]) ∧ Below w.heap.size w w' := by
 obtain ⟨h1, h2⟩ := by_
 go_enter Tryz.func190, Tryz.ntmps190
 go_wp2_with (fail)
 refine bodyPost_ret (v := .agg #[.int .i64 x, .int .i64 (-y)]) (by simp [results, Tryz.results190, go_sem]) rfl ⟨rfl, ?_⟩
 exact ((Below.refl _ _).alloc (Nat.le_refl _) _).alloc (by simp) _
theorem norm_any {x y : Int} (bx : -16777216 ≤ x ∧ x ≤ 16777216) (by_ : -16777216 ≤ y ∧ y ≤ 16777216) (w : World) : Calls Tryz.prog 191 #[.agg #[.int .i64 x, .int .i64 y]] w fun e w' => e = .returned (.int .i64 (x * x + y * y)) ∧ Below w.heap.size w w' := by
 obtain ⟨h1, h2⟩ := mul_big bx bx
 obtain ⟨h3, h4⟩ := mul_big by_ by_
 clear bx by_
 go_enter Tryz.func191, Tryz.ntmps191
 go_wp2_with (fail)
 go_ret
 exact ⟨rfl, (Below.refl _ _).alloc (Nat.le_refl _) _⟩
theorem natAbs_big {n : Int} (h : -281474976710656 ≤ n ∧ n ≤ 281474976710656) : n.natAbs < 4503599627370496 := by omega
theorem run_cmul {x y u v : Int} (hx : -16777216 ≤ x ∧ x ≤ 16777216) (hy : -16777216 ≤ y ∧ y ≤ 16777216) (hu : -16777216 ≤ u ∧ u ≤ 16777216) (hv : -16777216 ≤ v ∧ v ≤ 16777216) :
 ∃ re im, (∀ w : World, (binOp .mul 211 (.complex .f64 (floatOfInt .f64 x) (floatOfInt .f64 y)) (.complex .f64 (floatOfInt .f64 u) (floatOfInt .f64 v))).run Tryz.prog w = .ok (.complex .f64 re im) w) ∧
  Is re (x * u - y * v) ∧ Is im (x * v + y * u) := by
 obtain ⟨re, im, h, h1, h2⟩ := cmul (Is.ofInt (n := x) (by omega)) (Is.ofInt (n := y) (by omega)) (Is.ofInt (n := u) (by omega)) (Is.ofInt (n := v) (by omega))
  (natAbs_big (mul_big hx hu)) (natAbs_big (mul_big hy hv)) (natAbs_big (mul_big hx hv)) (natAbs_big (mul_big hy hu))
 exact ⟨re, im, fun w => run_complex_mul w _ _ _ _ _ _ _ h, h1, h2⟩
theorem cut_cases (t d : Int) (hd : 0 < d) : (0 ≤ t.tmod d ∧ t.tdiv d = t / d ∧ t.tdiv d * d ≤ t) ∨ (t.tmod d < 0 ∧ t.tdiv d - 1 = t / d ∧ t < t.tdiv d * d) := by
 have h1 := Int.mul_tdiv_add_tmod t d
 have h2 := Int.tmod_lt_of_pos t hd
 have h3 : -d < t.tmod d := by
  have := Int.lt_tmod_of_pos t hd; omega
 generalize t.tdiv d = q at *
 generalize t.tmod d = r at *
 rw [Int.mul_comm] at h1
 by_cases hr : 0 ≤ r
 · refine .inl ⟨hr, ?_, by omega⟩
   rw [← h1, show q * d + r = r + q * d by omega, Int.add_mul_ediv_right _ _ (by omega), Int.ediv_eq_zero_of_lt hr h2]; omega
 · refine .inr ⟨by omega, ?_, by omega⟩
   rw [← h1, show q * d + r = (r + d) + (q - 1) * d by rw [Int.sub_mul]; omega, Int.add_mul_ediv_right _ _ (by omega), Int.ediv_eq_zero_of_lt (by omega) (by omega)]; omega
theorem tdiv_le (t d M : Int) (h1 : -M ≤ t) (h2 : t ≤ M) (hM : 0 ≤ M) : -M ≤ t.tdiv d ∧ t.tdiv d ≤ M := by
 have h : (t.tdiv d).natAbs ≤ t.natAbs := by rw [Int.natAbs_tdiv]; exact Nat.div_le_self _ _
 omega
set_option maxHeartbeats 1000000 in
theorem nearest_any {n d : Int} (h1 : -1125899906842624 ≤ n) (h2 : n ≤ 1125899906842624) (h3 : 0 < d) (h4 : d ≤ 1125899906842624) (w : World) :
 Calls Tryz.prog 192 #[.int .i64 n, .int .i64 d] w fun e w' => e = .returned (.int .i64 (near n d)) ∧ w = w' := by
 obtain ⟨t1, t2⟩ := tdiv_le (2 * n + d) (2 * d) 4503599627370496 (by omega) (by omega) (by omega)
 have hn : near n d = (2 * n + d) / (2 * d) := rfl
 rcases cut_cases (2 * n + d) (2 * d) (by omega) with ⟨c1, c2, _⟩ | ⟨c1, c2, _⟩
 · have HE := Lib.hid (hn.trans c2.symm); clear hn c2
   go_enter Tryz.func192, Tryz.ntmps192
   go_wp2_with (fail)
   go_ret
   exact ⟨ret_int (by rw [HE.out]), rfl⟩
 · have HE := Lib.hid (hn.trans c2.symm); clear hn c2
   go_enter Tryz.func192, Tryz.ntmps192
   go_wp2_with (fail)
   go_ret
   exact ⟨ret_int (by rw [HE.out]), rfl⟩
end Go.Proofs.YtimllihegnokeaaGreatDoor.Ga
namespace Go.Proofs.YtimllihegnokeaaGreatDoor.Ov
open Go.ChangeShapes Go.WideShapes Go.ChangeAt Go.RowKit Go.Shelf
def cloneRen : Ren := ⟨fun | 25 => 128 | n => n, fun | 0 => 0 | 3 => 3 | 4 => 4 | 5 => 5 | 9 => 9 | 37 => 59 | 47 => 117 | n => n, fun n => n⟩
theorem cloneLays : LaysPu.n25 Tryz.prog cloneRen :=
 { mixed := by kernel_rfl
   f25 := by kernel_rfl
   t0 := by kernel_rfl
   a0 := fun _ => by kernel_rfl
   z0 := fun _ => by kernel_rfl
   v0 := fun _ => by kernel_rfl
   i0 := by kernel_rfl
   t3 := by kernel_rfl
   a3 := fun _ => by kernel_rfl
   z3 := fun _ => by kernel_rfl
   v3 := fun _ => by kernel_rfl
   i3 := by kernel_rfl
   t4 := by kernel_rfl
   a4 := fun _ => by kernel_rfl
   z4 := fun _ => by kernel_rfl
   v4 := fun _ => by kernel_rfl
   i4 := by kernel_rfl
   t5 := by kernel_rfl
   a5 := fun _ => by kernel_rfl
   z5 := fun _ => by kernel_rfl
   v5 := fun _ => by kernel_rfl
   i5 := by kernel_rfl
   t9 := by kernel_rfl
   a9 := fun _ => by kernel_rfl
   z9 := fun _ => by kernel_rfl
   v9 := fun _ => by kernel_rfl
   i9 := by kernel_rfl
   t37 := by kernel_rfl
   a37 := fun _ => by kernel_rfl
   z37 := fun _ => by kernel_rfl
   v37 := fun _ => by kernel_rfl
   i37 := by kernel_rfl
   t47 := by kernel_rfl
   a47 := fun _ => by kernel_rfl
   z47 := fun _ => by kernel_rfl
   v47 := fun _ => by kernel_rfl
   i47 := by kernel_rfl }
theorem sclone_any (s : ByteArray) (w : World) (hs : s.size ≤ 281474976710656) :
 Calls Tryz.prog 128 #[.string s] w fun e w' => e = .returned (.string s) ∧ Below w.heap.size w w' := AnyPu.stringslite_Clone cloneLays s w hs
set_option maxHeartbeats 400000 in
theorem clone_any (s : ByteArray) (w : World) (hs : s.size ≤ 281474976710656) :
 Calls Tryz.prog 88 #[.string s] w fun e w' => e = .returned (.string s) ∧ Below w.heap.size w w' := by
 go_enter Tryz.func88, Tryz.ntmps88
 go_wp2_with fail
 refine (sclone_any s _ hs).mono ?_
 rintro e w1 ⟨rfl, hb⟩
 have HB := Lib.hid hb; clear hb
 go_wp2_with fail
 go_ret
 exact ⟨rfl, HB.out⟩
def Bld (B b : Nat) (l : List UInt8) (w : World) : Prop := Lib.IsBuilder 61 5 B b (Lib.byteCells l) w
def bwsRen : Ren := ⟨fun | 166 => 24 | 240 => 64 | 276 => 105 | n => n, fun | 0 => 0 | 3 => 3 | 4 => 4 | 5 => 5 | 9 => 9 | 20 => 20 | 37 => 59 | 70 => 58 | 72 => 61 | 75 => 64 | 80 => 78 | 164 => 166 | n => n, fun n => n⟩
theorem bwsLays : Lays.n166 Tryz.prog bwsRen :=
 { mixed := by kernel_rfl
   f166 := by kernel_rfl
   f240 := by kernel_rfl
   f276 := by kernel_rfl
   t0 := by kernel_rfl
   a0 := fun _ => by kernel_rfl
   z0 := fun _ => by kernel_rfl
   v0 := fun _ => by kernel_rfl
   t3 := by kernel_rfl
   a3 := fun _ => by kernel_rfl
   z3 := fun _ => by kernel_rfl
   v3 := fun _ => by kernel_rfl
   t4 := by kernel_rfl
   a4 := fun _ => by kernel_rfl
   z4 := fun _ => by kernel_rfl
   v4 := fun _ => by kernel_rfl
   t9 := by kernel_rfl
   a9 := fun _ => by kernel_rfl
   z9 := fun _ => by kernel_rfl
   v9 := fun _ => by kernel_rfl
   t20 := by kernel_rfl
   a20 := fun _ => by kernel_rfl
   z20 := fun _ => by kernel_rfl
   v20 := fun _ => by kernel_rfl
   t37 := by kernel_rfl
   a37 := fun _ => by kernel_rfl
   z37 := fun _ => by kernel_rfl
   v37 := fun _ => by kernel_rfl
   t70 := by kernel_rfl
   a70 := fun _ => by kernel_rfl
   z70 := fun _ => by kernel_rfl
   v70 := fun _ => by kernel_rfl
   t72 := by kernel_rfl
   a72 := fun _ => by kernel_rfl
   z72 := fun _ => by kernel_rfl
   v72 := fun _ => by kernel_rfl
   t75 := by kernel_rfl
   a75 := fun _ => by kernel_rfl
   z75 := fun _ => by kernel_rfl
   v75 := fun _ => by kernel_rfl
   t164 := by kernel_rfl
   a164 := fun _ => by kernel_rfl
   z164 := fun _ => by kernel_rfl
   v164 := fun _ => by kernel_rfl }
theorem bwsExtra : Builder.Extra Tryz.prog bwsRen :=
 { sizeBuilder := by kernel_rfl
   liesBuilder := by kernel_rfl
   t5 := by kernel_rfl
   a5 := fun _ => by kernel_rfl
   z5 := fun _ => by kernel_rfl
   v5 := fun _ => by kernel_rfl
   infoByte := by kernel_rfl
   cellsByte := by kernel_rfl
   sizeByte := by kernel_rfl
   neB5 := by decide }
def bwbRen : Ren := ⟨fun | 167 => 109 | 240 => 64 | 276 => 105 | n => n, fun | 0 => 0 | 4 => 4 | 5 => 5 | 9 => 9 | 20 => 20 | 37 => 59 | 70 => 58 | 72 => 61 | 75 => 64 | 80 => 78 | 164 => 166 | n => n, fun n => n⟩
theorem bwbLays : Lays.n167 Tryz.prog bwbRen :=
 { mixed := by kernel_rfl
   f167 := by kernel_rfl
   f240 := by kernel_rfl
   f276 := by kernel_rfl
   t0 := by kernel_rfl
   a0 := fun _ => by kernel_rfl
   z0 := fun _ => by kernel_rfl
   v0 := fun _ => by kernel_rfl
   t4 := by kernel_rfl
   a4 := fun _ => by kernel_rfl
   z4 := fun _ => by kernel_rfl
   v4 := fun _ => by kernel_rfl
   t5 := by kernel_rfl
   a5 := fun _ => by kernel_rfl
   z5 := fun _ => by kernel_rfl
   v5 := fun _ => by kernel_rfl
   t9 := by kernel_rfl
   a9 := fun _ => by kernel_rfl
   z9 := fun _ => by kernel_rfl
   v9 := fun _ => by kernel_rfl
   t20 := by kernel_rfl
   a20 := fun _ => by kernel_rfl
   z20 := fun _ => by kernel_rfl
   v20 := fun _ => by kernel_rfl
   t37 := by kernel_rfl
   a37 := fun _ => by kernel_rfl
   z37 := fun _ => by kernel_rfl
   v37 := fun _ => by kernel_rfl
   t70 := by kernel_rfl
   a70 := fun _ => by kernel_rfl
   z70 := fun _ => by kernel_rfl
   v70 := fun _ => by kernel_rfl
   t72 := by kernel_rfl
   a72 := fun _ => by kernel_rfl
   z72 := fun _ => by kernel_rfl
   v72 := fun _ => by kernel_rfl
   t75 := by kernel_rfl
   a75 := fun _ => by kernel_rfl
   z75 := fun _ => by kernel_rfl
   v75 := fun _ => by kernel_rfl
   t164 := by kernel_rfl
   a164 := fun _ => by kernel_rfl
   z164 := fun _ => by kernel_rfl
   v164 := fun _ => by kernel_rfl }
theorem bwbExtra : Builder.Extra Tryz.prog bwbRen :=
 { sizeBuilder := by kernel_rfl
   liesBuilder := by kernel_rfl
   t5 := by kernel_rfl
   a5 := fun _ => by kernel_rfl
   z5 := fun _ => by kernel_rfl
   v5 := fun _ => by kernel_rfl
   infoByte := by kernel_rfl
   cellsByte := by kernel_rfl
   sizeByte := by kernel_rfl
   neB5 := by decide }
theorem byte_any (B b : Nat) (l : List UInt8) (c : UInt8) (w : World) (h : Bld B b l w) (hlen : l.length + 1 ≤ 140737488355328) (hB : B ≤ w.heap.size) :
 Calls Tryz.prog 109 #[.pointer (some ⟨b, 0, none⟩), .int .u8 (c.toNat : Int)] w fun e w' => e = .returned .nilIface ∧ Bld B b (l ++ [c]) w' ∧ Below B w w' :=
 (Any.Builder_WriteByte bwbLays bwbExtra B b (Lib.byteCells l) (c.toNat : Int) w h (by rw [Lib.byteCells_length]; exact hlen) hB).mono fun _ w' ⟨he, h1, hb⟩ =>
   ⟨he, by
    have e : Lib.byteCells (l ++ [c]) = Lib.byteCells l ++ [.int .u8 (c.toNat : Int)] := by simp [Lib.byteCells]
    rw [← e] at h1
    exact Or.inr h1, hb⟩
def bstRen : Ren := ⟨fun | 169 => 32 | n => n, fun | 0 => 0 | 3 => 3 | 5 => 5 | 9 => 9 | 37 => 59 | 70 => 58 | 72 => 61 | 127 => 117 | n => n, fun n => n⟩
theorem bstLays : Lays.n169 Tryz.prog bstRen :=
 { mixed := by kernel_rfl
   f169 := by kernel_rfl
   t0 := by kernel_rfl
   a0 := fun _ => by kernel_rfl
   z0 := fun _ => by kernel_rfl
   v0 := fun _ => by kernel_rfl
   t3 := by kernel_rfl
   a3 := fun _ => by kernel_rfl
   z3 := fun _ => by kernel_rfl
   v3 := fun _ => by kernel_rfl
   t9 := by kernel_rfl
   a9 := fun _ => by kernel_rfl
   z9 := fun _ => by kernel_rfl
   v9 := fun _ => by kernel_rfl
   t37 := by kernel_rfl
   a37 := fun _ => by kernel_rfl
   z37 := fun _ => by kernel_rfl
   v37 := fun _ => by kernel_rfl
   t70 := by kernel_rfl
   a70 := fun _ => by kernel_rfl
   z70 := fun _ => by kernel_rfl
   v70 := fun _ => by kernel_rfl
   t72 := by kernel_rfl
   a72 := fun _ => by kernel_rfl
   z72 := fun _ => by kernel_rfl
   v72 := fun _ => by kernel_rfl
   t127 := by kernel_rfl
   a127 := fun _ => by kernel_rfl
   z127 := fun _ => by kernel_rfl
   v127 := fun _ => by kernel_rfl }
theorem bstExtra : Builder.Extra Tryz.prog bstRen :=
 { sizeBuilder := by kernel_rfl
   liesBuilder := by kernel_rfl
   t5 := by kernel_rfl
   a5 := fun _ => by kernel_rfl
   z5 := fun _ => by kernel_rfl
   v5 := fun _ => by kernel_rfl
   infoByte := by kernel_rfl
   cellsByte := by kernel_rfl
   sizeByte := by kernel_rfl
   neB5 := by decide }
theorem string_any (B b : Nat) (l : List UInt8) (w : World) (h : Bld B b l w) (hB : B ≤ w.heap.size) :
 Calls Tryz.prog 32 #[.pointer (some ⟨b, 0, none⟩)] w fun e w' => e = .returned (.string (tx l)) ∧ Below B w w' :=
 Any.Builder_String_any bstLays bstExtra B b l w h hB
end Go.Proofs.YtimllihegnokeaaGreatDoor.Ov
namespace Go.Proofs.YtimllihegnokeaaGreatDoor.Ov
open Go.ChangeShapes Go.WideShapes Go.ChangeAt Go.RowKit
theorem Bld.fresh (w : World) : Bld w.heap.size w.heap.size [] (w.alloc (.cells #[.pointer none, .slice none 0 0] 61)) := Lib.fresh_isBuilder _ _ w
theorem Bld.old {B b : Nat} {l : List UInt8} {w w' : World} (h : Bld B b l w) (k : Below w.heap.size w w') : Bld B b l w' := by
 have key : ∀ p, Lib.BuilderAt 61 5 B b p (Lib.byteCells l) w → Lib.BuilderAt 61 5 B b p (Lib.byteCells l) w' := fun p h => by
  have hlt := h.lt
  obtain ⟨hB, v, hb, hown, hne⟩ := h
  refine ⟨hB, v, by rw [k.block b hlt]; exact hb, hown.kept (row := none) ⟨k.os, k.tape, k.output, k.size, fun i hi _ => k.block i hi⟩ ?_, hne⟩
  cases hv : v.ownBlock with
  | none => exact Or.inl rfl
  | some g => exact Or.inr (by simp)
 exact h.elim (fun h => Or.inl (key _ h)) (fun h => Or.inr (key _ h))
theorem Bld.cast {B b : Nat} {l l' : List UInt8} {w : World} (h : Bld B b l w) (e : l = l') : Bld B b l' w := e ▸ h
end Go.Proofs.YtimllihegnokeaaGreatDoor.Ov
namespace Go.Proofs.YtimllihegnokeaaGreatDoor.Va
open Go.ChangeShapes Go.WideShapes Go.ChangeAt Go.RowKit Ov
def six : ByteArray := ⟨#[48, 49, 50, 51, 52, 53, 54, 55, 56, 57, 97, 98, 99, 100, 101, 102]⟩
theorem six_at : ∀ i : Fin 16, six.data[i.val]? = some (hx i.val) := by decide
theorem run_six {z : Int} (n : Nat) (h : n < 16) (hz : z = (n : Int)) (w : World) : (Instr.index 9 (.string ⟨#[48, 49, 50, 51, 52, 53, 54, 55, 56, 57, 97, 98, 99, 100, 101, 102]⟩) (.int .u8 z)).run Tryz.prog w = .ok (.int .u8 ((hx n).toNat : Int)) w := by
 subst hz
 have hs : (n : Int) < ((six.size : Nat) : Int) := by show (n : Int) < 16; omega
 refine (run_index_string w 9 six .u8 (n : Int) Tryz.underlying9).trans ?_
 rw [dif_pos ⟨by omega, hs⟩]
 have e : six[((n : Int)).toNat]'(by omega) = hx n := by
  have := six_at ⟨n, h⟩
  rw [Array.getElem?_eq_some_iff] at this
  obtain ⟨hlt, he⟩ := this
  rw [← he]
  simp only [Int.toNat_natCast]
  rfl
 rw [e]
theorem esc_take (s : ByteArray) (k : Nat) (h : k < s.size) : esc (s.data.toList.take (k + 1)) = esc (s.data.toList.take k) ++ e1 s[k] := by
 rw [take_snoc s k h, esc_append]; unfold esc; simp
set_option maxRecDepth 100000 in
set_option maxHeartbeats 1000000 in
theorem writeText_any (s : ByteArray) (w : World) (hs : s.size ≤ 4096) :
 Calls Tryz.prog 173 #[.string s] w (Gives (.string (tx (34 :: (esc s.data.toList ++ [34])))) w) := by
 go_enter Tryz.func173, Tryz.ntmps173
 go_wp2_with (fail)
 have D0 := Lib.hid (Bld.fresh w)
 have HB0 := Lib.hid (box1 w (.cells #[.pointer none, .slice none 0 0] 61))
 generalize w.alloc (.cells #[.pointer none, .slice none 0 0] 61) = w0 at *
 refine (byte_any w.heap.size w.heap.size [] 34 _ D0.out (by simp) HB0.out.size).mono ?_
 rintro e w1 ⟨rfl, hd, hb⟩
 have D1 := Lib.hid hd
 have HB1 := Lib.hid (HB0.out.trans hb)
 clear hd hb D0 HB0
 go_wp2_with (fail)
 go_loopw [8] (fun i wr => ∃ k : Nat, k ≤ s.size ∧ i = .int .i64 (k : Int) ∧ Bld w.heap.size w.heap.size (34 :: esc (s.data.toList.take k)) wr ∧ Below w.heap.size w wr) (fun i _ => s.size - (intOf i).toNat)
 case atStart => exact ⟨0, Nat.zero_le _, rfl, D1.out, HB1.out⟩
 case round =>
  obtain ⟨k, hk, rfl, hd, hb⟩ := hrel
  have D1 := Lib.hid hd; have HB1 := Lib.hid hb; clear hd hb
  have hlen : (esc (s.data.toList.take k)).length ≤ 12288 := by
   have h1 := esc_le (s.data.toList.take k)
   have h2 : (s.data.toList.take k).length ≤ k := List.length_take_le _ _
   omega
  by_cases hlt : k < s.size
  · have HS := Lib.hid (esc_take s k hlt)
    obtain ⟨c, hc⟩ : ∃ c : UInt8, s[k] = c := ⟨_, rfl⟩
    rw [hc] at HS
    have HP := Lib.hid (plain_any c)
    have hcl := c.toNat_lt
    by_cases hp : pl c = true
    · have HE : Hid (e1 c = [c]) := if_pos hp
      rw [hp] at HP; clear hp
      generalize esc (s.data.toList.take k) = l at *
      go_wp2_with (fail)
      refine (HP.out _).mono ?_
      rintro e w' ⟨rfl, rfl⟩
      go_wp2_with (fail)
      refine (byte_any w.heap.size w.heap.size _ c _ D1.out (by simp; omega) HB1.out.size).mono ?_
      rintro e w2 ⟨rfl, hd, hb⟩
      have D2 := Lib.hid hd
      have HB2 := Lib.hid (HB1.out.trans hb)
      clear hd hb D1 HB1
      go_wp2_with (fail)
      go_roundw
      case rel => exact ⟨k + 1, by omega, by go_num, D2.out.cast (by rw [HS.out, HE.out]; rfl), HB2.out⟩
      case measure => simp [intOf]; omega
    · have hp' : pl c = false := by simpa using hp
      have HE : Hid (e1 c = [92, hx (c.toNat / 16), hx (c.toNat % 16)]) := if_neg hp
      rw [hp'] at HP; clear hp hp'
      have hx1 := run_six (z := (c.toNat : Int) / 16) (c.toNat / 16) (by omega) (by omega)
      have hx2 := run_six (z := (c.toNat : Int) % 16) (c.toNat % 16) (by omega) (by omega)
      generalize esc (s.data.toList.take k) = l at *
      go_wp2_with (fail)
      refine (HP.out _).mono ?_
      rintro e w' ⟨rfl, rfl⟩
      go_wp2_with (fail)
      refine (byte_any w.heap.size w.heap.size _ 92 _ D1.out (by simp; omega) HB1.out.size).mono ?_
      rintro e w2 ⟨rfl, hd, hb⟩
      have D2 := Lib.hid hd
      have HB2 := Lib.hid (HB1.out.trans hb)
      clear hd hb D1 HB1
      go_wp2_with (fail)
      refine (byte_any w.heap.size w.heap.size _ (hx (c.toNat / 16)) _ D2.out (by simp; omega) HB2.out.size).mono ?_
      rintro e w3 ⟨rfl, hd, hb⟩
      have D3 := Lib.hid hd
      have HB3 := Lib.hid (HB2.out.trans hb)
      clear hd hb D2 HB2
      go_wp2_with (fail)
      refine (byte_any w.heap.size w.heap.size _ (hx (c.toNat % 16)) _ D3.out (by simp; omega) HB3.out.size).mono ?_
      rintro e w4 ⟨rfl, hd, hb⟩
      have D4 := Lib.hid hd
      have HB4 := Lib.hid (HB3.out.trans hb)
      clear hd hb D3 HB3
      go_wp2_with (fail)
      go_roundw
      case rel => exact ⟨k + 1, by omega, by go_num, D4.out.cast (by rw [HS.out, HE.out]; simp), HB4.out⟩
      case measure => simp [intOf]; omega
  · have HT : Hid (s.data.toList.take k = s.data.toList) := List.take_of_length_le (by simp; omega)
    rw [HT.out] at D1 hlen
    generalize esc s.data.toList = l at *
    go_wp2_with (fail)
    refine (byte_any w.heap.size w.heap.size _ 34 _ D1.out (by simp; omega) HB1.out.size).mono ?_
    rintro e w2 ⟨rfl, hd, hb⟩
    have D2 := Lib.hid hd
    have HB2 := Lib.hid (HB1.out.trans hb)
    clear hd hb D1 HB1
    go_wp2_with (fail)
    refine (string_any _ _ _ _ D2.out HB2.out.size).mono ?_
    rintro e w3 ⟨rfl, hb⟩
    have HB3 := Lib.hid (HB2.out.trans hb)
    clear hb
    go_wp2_with (fail)
    go_ret
    exact ⟨rfl, HB3.out⟩
end Go.Proofs.YtimllihegnokeaaGreatDoor.Va
namespace Go.Proofs.YtimllihegnokeaaGreatDoor.Ev
open Ov Tp Ga Va Ex
end Go.Proofs.YtimllihegnokeaaGreatDoor.Ev
namespace Go.Proofs.YtimllihegnokeaaGreatDoor.Cr
def hv (n : Nat) : Nat := if n % 2 = 1 then (n / 2) ^^^ 3988292384 else n / 2
def hs : Nat → Nat → Nat | 0, n => n | k + 1, n => hs k (hv n)
def st (n : Nat) (b : UInt8) : Nat := hs 8 (n ^^^ b.toNat)
def run (n : Nat) (l : List UInt8) : Nat := l.foldl st n
def by8 (x i : Nat) : UInt8 := UInt8.ofNat (x / 2 ^ (8 * i))
def sb (x : Nat) : List UInt8 := [by8 x 0, by8 x 1, by8 x 2, by8 x 3]
end Go.Proofs.YtimllihegnokeaaGreatDoor.Cr
namespace Go.Proofs.YtimllihegnokeaaGreatDoor.Ev
open Ov Tp Ga Va Ex
def Fu {α : Type} (f : M α) : Prop := ∀ S n, (∃ a S1 m, m ≤ n ∧ f S n = .ok a S1 m ∧ (∀ j, f S (n - m + j) = .ok a S1 j) ∧ ∀ j, j < n - m → f S j = .er 15) ∨ (∃ x, f S n = .er x ∧ (x ≠ 15 → ∀ j, f S (n + j) = .er x))
theorem Fu.still {α : Type} {f : M α} (h : ∀ S, (∃ a S1, ∀ n, f S n = .ok a S1 n) ∨ ∃ x, ∀ n, f S n = .er x) : Fu f := by
 intro S n
 rcases h S with ⟨a, S1, g⟩ | ⟨x, g⟩
 · exact .inl ⟨a, S1, n, Nat.le_refl _, g n, fun j => by rw [Nat.sub_self, Nat.zero_add]; exact g j, fun j hj => by omega⟩
 · exact .inr ⟨x, g n, fun _ j => g _⟩
theorem Fu.bnd {α β : Type} {f : M α} {g : α → M β} (hf : Fu f) (hg : ∀ a, Fu (g a)) : Fu (bnd f g) := by
 intro S n
 rcases hf S n with ⟨a, S1, m, hm, e, e1, e2⟩ | ⟨x, e, e1⟩
 · rcases hg a S1 m with ⟨b, S2, k, hk, q, q1, q2⟩ | ⟨x, q, q1⟩
   · refine .inl ⟨b, S2, k, by omega, by rw [bnd_ok e]; exact q, fun j => ?_, fun j hj => ?_⟩
     · rw [show n - k + j = n - m + (m - k + j) by omega, bnd_ok (e1 _)]; exact q1 j
     · by_cases h : j < n - m
       · exact bnd_er (e2 j h)
       · rw [show j = n - m + (j - (n - m)) by omega, bnd_ok (e1 _)]; exact q2 _ (by omega)
   · refine .inr ⟨x, by rw [bnd_ok e]; exact q, fun hx j => ?_⟩
     rw [show n + j = n - m + (m + j) by omega, bnd_ok (e1 _)]; exact q1 hx j
 · exact .inr ⟨x, bnd_er e, fun hx j => bnd_er (e1 hx j)⟩
theorem Fu.ret {α : Type} (a : α) : Fu (ret a) := .still fun S => .inl ⟨a, S, fun _ => rfl⟩
theorem Fu.fail {α : Type} (x : Int) : Fu (fail x : M α) := .still fun _ => .inr ⟨x, fun _ => rfl⟩
theorem Fu.va {f : List No → M Va} (h : ∀ r, Fu (f r)) : ∀ (k : Nat) (r : List No) (acc : List Va), Fu (va f k r acc)
 | 0, _, _ => .ret _
 | k + 1, r, acc => by rw [va_succ]; exact (h r).bnd fun v => Fu.va h k _ _
def St.ahead (p : List (List UInt8 × Va)) (S : St) : St := { S with out := p ++ S.out }
def Pre {α : Type} (f : M α) : Prop := ∀ S n, (∃ a S1 m, f S n = .ok a S1 m ∧ S.out.length ≤ S1.out.length ∧ (∀ p, p.length + S1.out.length ≤ 64 → f (S.ahead p) n = .ok a (S1.ahead p) m) ∧ ∀ p, p.length + S.out.length ≤ 64 → 64 < p.length + S1.out.length → f (S.ahead p) n = .er 22) ∨
 (∃ x, f S n = .er x ∧ ∀ p, p.length + S.out.length ≤ 64 → f (S.ahead p) n = .er x ∨ f (S.ahead p) n = .er 22)
theorem Pre.still {α : Type} {f : M α} (h : ∀ S n, (∃ a S1 m, f S n = .ok a S1 m ∧ S1.out = S.out ∧ ∀ p, f (S.ahead p) n = .ok a (S1.ahead p) m) ∨ ∃ x, f S n = .er x ∧ ∀ p, f (S.ahead p) n = .er x) : Pre f := by
 intro S n
 rcases h S n with ⟨a, S1, m, e, e1, e2⟩ | ⟨x, e, e1⟩
 · exact .inl ⟨a, S1, m, e, by rw [e1]; exact Nat.le_refl _, fun p _ => e2 p, fun p h1 h2 => by rw [e1] at h2; omega⟩
 · exact .inr ⟨x, e, fun p _ => .inl (e1 p)⟩
theorem Pre.bnd {α β : Type} {f : M α} {g : α → M β} (hf : Pre f) (hg : ∀ a, Pre (g a)) : Pre (bnd f g) := by
 intro S n
 rcases hf S n with ⟨a, S1, m, e, e0, e1, e2⟩ | ⟨x, e, e1⟩
 · rcases hg a S1 m with ⟨b, S2, k, q, q0, q1, q2⟩ | ⟨x, q, q1⟩
   · refine .inl ⟨b, S2, k, by rw [bnd_ok e]; exact q, by omega, fun p hp => ?_, fun p h1 h2 => ?_⟩
     · rw [bnd_ok (e1 p (by omega))]; exact q1 p hp
     · by_cases h : p.length + S1.out.length ≤ 64
       · rw [bnd_ok (e1 p h)]; exact q2 p h h2
       · exact bnd_er (e2 p h1 (by omega))
   · refine .inr ⟨x, by rw [bnd_ok e]; exact q, fun p hp => ?_⟩
     by_cases h : p.length + S1.out.length ≤ 64
     · rw [bnd_ok (e1 p h)]; exact q1 p h
     · exact .inr (bnd_er (e2 p hp (by omega)))
 · refine .inr ⟨x, bnd_er e, fun p hp => ?_⟩
   rcases e1 p hp with h | h
   · exact .inl (bnd_er h)
   · exact .inr (bnd_er h)
theorem Pre.ret {α : Type} (a : α) : Pre (ret a) := .still fun S n => .inl ⟨a, S, n, rfl, rfl, fun _ => rfl⟩
theorem Pre.fail {α : Type} (x : Int) : Pre (fail x : M α) := .still fun _ _ => .inr ⟨x, rfl, fun _ => rfl⟩
theorem Pre.va {f : List No → M Va} (h : ∀ r, Pre (f r)) : ∀ (k : Nat) (r : List No) (acc : List Va), Pre (va f k r acc)
 | 0, _, _ => .ret _
 | k + 1, r, acc => by rw [va_succ]; exact (h r).bnd fun v => Pre.va h k _ _
def Kee {α : Type} (f : M α) : Prop := ∀ S n a S1 m, f S n = .ok a S1 m → S1 = { S with out := S1.out }
theorem Kee.bnd {α β : Type} {f : M α} {g : α → M β} (hf : Kee f) (hg : ∀ a, Kee (g a)) : Kee (bnd f g) := by
 intro S n b S1 m e
 unfold Ev.bnd at e
 cases hc : f S n with
 | er x => rw [hc] at e; cases e
 | ok a S2 n2 =>
   rw [hc] at e
   have h1 := hf _ _ _ _ _ hc
   have h2 := hg a _ _ _ _ _ e
   rw [h2, h1]
theorem Kee.ret {α : Type} (a : α) : Kee (ret a) := by
 intro S n b S1 m e; injection e with _ e2 _; subst e2; rfl
theorem Kee.fail {α : Type} (x : Int) : Kee (fail x : M α) := by intro S n b S1 m e; cases e
def KeeI {α : Type} (f : M α) : Prop := ∀ S n a S1 m, f S n = .ok a S1 m → S1 = { S with out := S1.out, i := S1.i }
theorem KeeI.bnd {α β : Type} {f : M α} {g : α → M β} (hf : KeeI f) (hg : ∀ a, KeeI (g a)) : KeeI (bnd f g) := by
 intro S n b S1 m e
 unfold Ev.bnd at e
 cases hc : f S n with
 | er x => rw [hc] at e; cases e
 | ok a S2 n2 =>
   rw [hc] at e
   have h1 := hf _ _ _ _ _ hc
   have h2 := hg a _ _ _ _ _ e
   rw [h2, h1]
theorem Kee.va {f : List No → M Va} (h : ∀ r, Kee (f r)) : ∀ (k : Nat) (r : List No) (acc : List Va), Kee (va f k r acc)
 | 0, _, _ => .ret _
 | k + 1, r, acc => by rw [va_succ]; exact (h r).bnd fun v => Kee.va h k _ _
def St.alt (k : List UInt8) (v c : Va) (S : St) : St := { S with key := k, val := v, acc := c }
def Rs.alt {α : Type} (k : List UInt8) (v c : Va) : Rs α → Rs α
 | .er x => .er x
 | .ok a S n => .ok a (S.alt k v c) n
section
variable {K K' : List UInt8} {V C V' C' : Va}
def Was (K : List UInt8) (V C : Va) (S : St) : Prop := S.key = K ∧ S.val = V ∧ S.acc = C
def Nam {α : Type} (K : List UInt8) (V C : Va) (K' : List UInt8) (V' C' : Va) (f : M α) : Prop := ∀ S n, Was K V C S → f (S.alt K' V' C') n = (f S n).alt K' V' C' ∧ ∀ a S1 m, f S n = .ok a S1 m → Was K V C S1
theorem Nam.bnd {α β : Type} {f : M α} {g : α → M β} (hf : Nam K V C K' V' C' f) (hg : ∀ a, Nam K V C K' V' C' (g a)) : Nam K V C K' V' C' (bnd f g) := by
 intro S n h
 obtain ⟨h1, h2⟩ := hf S n h
 unfold Ev.bnd
 rw [h1]
 cases hc : f S n with
 | er x => exact ⟨rfl, fun a S1 m e => by cases e⟩
 | ok a S2 n2 => exact hg a S2 n2 (h2 _ _ _ hc)
theorem Nam.ret {α : Type} (a : α) : Nam K V C K' V' C' (ret a) := fun S n h => ⟨rfl, fun b S1 m e => by injection e with _ e2 _; subst e2; exact h⟩
theorem Nam.fail {α : Type} (x : Int) : Nam K V C K' V' C' (fail x : M α) := fun S n h => ⟨rfl, fun b S1 m e => by cases e⟩
end
theorem nx_mem {n : No} {r : List No} (h : n ∈ nx r) : n ∈ r := by
 unfold nx at h
 cases hc : ex 25 r with
 | none => rw [hc] at h; cases h
 | some r' =>
   rw [hc] at h
   obtain ⟨c, e, _⟩ := ex_takes 25 r r' hc
   rw [e]; exact List.mem_append_right _ h
def Ali (K : List UInt8) (V C : Va) (K' : List UInt8) (V' C' : Va) (l : List No) : Prop := ∀ n ∈ l, n.o = 1 → (n.v.n = 0 → K = K') ∧ (n.v.n = 1 → V = V') ∧ (n.v.n = 2 → C = C')
section
variable {K K' : List UInt8} {V C V' C' : Va}
theorem Ali.nx {l : List No} (h : Ali K V C K' V' C' l) : Ali K V C K' V' C' (nx l) := fun n hn => h n (nx_mem hn)
theorem Nam.va {f : List No → M Va} (h : ∀ r, Ali K V C K' V' C' r → Nam K V C K' V' C' (f r)) : ∀ (k : Nat) (r : List No) (acc : List Va), Ali K V C K' V' C' r → Nam K V C K' V' C' (va f k r acc)
 | 0, _, _, _ => .ret _
 | k + 1, r, acc, hr => by rw [va_succ]; exact (h r hr).bnd fun v => Nam.va h k _ _ hr.nx
end
end Go.Proofs.YtimllihegnokeaaGreatDoor.Ev
namespace Go.Proofs.YtimllihegnokeaaGreatDoor.Jo
open Go.ChangeShapes Go.WideShapes Go.ChangeAt Go.RowKit Go.Maps Ov
theorem lawB : Keyed Tryz.prog 4 := bool_keyed Tryz.underlying4
def ansR (v : Value) : Option (DataW Unit × List MemPlace) :=
 match v with
 | .agg a => match a.toList with
   | [.string s] => some (.lit (.string s.data.toList), [])
   | _ => none
 | _ => none
def yesL : List UInt8 := [121, 101, 115]
def noL : List UInt8 := [110, 111]
def ansD : DataW Unit := ((DataW.map []).put (.bool true) (.lit (.string yesL))).put (.bool false) (.lit (.string noL))
def Am (w : World) (b : Nat) : Prop := w.ownsMap Tryz.prog 4 ansR b 2 ansD
theorem Am.next {w w' : World} {b : Nat} (h : Am w b) (k : Below w.heap.size w w') : Am w' b := World.ownsMap.kept h ⟨k.os, k.tape, k.output, k.size, fun i hi _ => k.block i hi⟩ (row := none) (by simp)
theorem ansR_inv {v : Value} {l : List UInt8} {ps : List MemPlace} (h : ansR v = some (.lit (.string l), ps)) : v = .agg #[.string (tx l)] := by
 unfold ansR at h
 split at h
 · rename_i a
   split at h
   · rename_i s hs
     simp only [Option.some.injEq, Prod.mk.injEq, DataW.lit.injEq, Lit.string.injEq] at h
     have e : a = #[.string s] := by rw [← Array.toList_inj]; exact hs
     rw [e, tx_ext h.1]
   · cases h
 · cases h
theorem Am.look {w : World} {b : Nat} (h : Am w b) (q : Bool) : (Instr.lookup 75 (.map (some b)) (.bool q) false).run Tryz.prog w = .ok (.agg #[.string (tx (if q then yesL else noL))]) w := by
 have hz : (zeroValue 74).run Tryz.prog w = .ok (.agg #[.string ⟨#[]⟩]) w := by kernel_rfl
 obtain ⟨v, ps, hr, hv⟩ := World.ownsMap.lookup h lawB Tryz.underlying75 hz (show ansR (.agg #[.string ⟨#[]⟩]) = some (.lit (.string []), []) from rfl) (keyOf_bool_mk Tryz.underlying4 q)
 have e : ansD.atKey (.bool q) (.lit (.string [])) = .lit (.string (if q then yesL else noL)) := by cases q <;> rfl
 rw [e] at hv
 rw [hr, ansR_inv hv]
theorem answers_any (w : World) : Calls Tryz.prog 30 #[] w (fun e w' => ∃ b, e = .returned (.map (some b)) ∧ Am w' b ∧ Below w.heap.size w w') := by
 have hmm := @run_makeMap Tryz.prog
 have h0 : (w.alloc (.map #[] 0)).ownsMap Tryz.prog 4 ansR w.heap.size 0 (.map []) := World.ownsMap_made w _ _ _
 obtain ⟨w1, hr1, h1, g1⟩ := h0.update lawB Tryz.underlying75 (by decide) (keyOf_bool_mk Tryz.underlying4 true) (show ansR (.agg #[.string ⟨#[121, 101, 115]⟩]) = some (.lit (.string yesL), []) from rfl)
 obtain ⟨w2, hr2, h2, g2⟩ := h1.update lawB Tryz.underlying75 (by decide) (keyOf_bool_mk Tryz.underlying4 false) (show ansR (.agg #[.string ⟨#[110, 111]⟩]) = some (.lit (.string noL), []) from rfl)
 have b0 := (Below.refl w.heap.size w).alloc (Nat.le_refl _) (.map #[] 0)
 have b1 := b0.grown g1 b0.size (fun k e => by injection e with e; omega)
 have hb : Below w.heap.size w w2 := b1.grown g2 b1.size (fun k e => by injection e with e; omega)
 clear b0 b1
 have H2 := Lib.hid h2; have HB := Lib.hid hb
 clear h0 h1 h2 g1 g2 hb
 go_enter Tryz.func30, Tryz.ntmps30
 go_wp2_with (fail)
 go_ret
 exact ⟨_, rfl, H2.out, HB.out⟩
end Go.Proofs.YtimllihegnokeaaGreatDoor.Jo
namespace Go.Proofs.YtimllihegnokeaaGreatDoor.Ov
open Go.ChangeShapes Go.WideShapes Go.ChangeAt Go.RowKit Go.Shelf
def BldF (B b : Nat) (l : List UInt8) (w : World) : Prop := Lib.IsBuilderF 61 5 B b (Lib.byteCells l) w
def Kept (b : Nat) (w w' : World) : Prop := Lib.OthersKept 5 (some b) w w'
theorem writeK_any (B b : Nat) (l : List UInt8) (s : ByteArray) (w : World) (h : BldF B b l w) (hlen : l.length + s.size ≤ 140737488355328) (hB : B ≤ w.heap.size) :
 Calls Tryz.prog 24 #[.pointer (some ⟨b, 0, none⟩), .string s] w fun e w' => e = .returned (.tuple #[.int .i64 s.size, .nilIface]) ∧ BldF B b (l ++ s.data.toList) w' ∧ Below B w w' ∧ Kept b w w' :=
 (Any.Builder_WriteString_k bwsLays bwsExtra B b (Lib.byteCells l) s w h (by rw [Lib.byteCells_length]; exact hlen) hB).mono fun _ w' ⟨he, h1, hb, hk⟩ =>
   ⟨he, by
    rw [Lib.strCells_eq, ← Lib.byteCells_append] at h1
    exact Or.inr h1, hb, hk⟩
theorem byteK_any (B b : Nat) (l : List UInt8) (c : UInt8) (w : World) (h : BldF B b l w) (hlen : l.length + 1 ≤ 140737488355328) (hB : B ≤ w.heap.size) :
 Calls Tryz.prog 109 #[.pointer (some ⟨b, 0, none⟩), .int .u8 (c.toNat : Int)] w fun e w' => e = .returned .nilIface ∧ BldF B b (l ++ [c]) w' ∧ Below B w w' ∧ Kept b w w' :=
 (Any.Builder_WriteByte_k bwbLays bwbExtra B b (Lib.byteCells l) (c.toNat : Int) w h (by rw [Lib.byteCells_length]; exact hlen) hB).mono fun _ w' ⟨he, h1, hb, hk⟩ =>
   ⟨he, by
    have e : Lib.byteCells (l ++ [c]) = Lib.byteCells l ++ [.int .u8 (c.toNat : Int)] := by simp [Lib.byteCells]
    rw [← e] at h1
    exact Or.inr h1, hb, hk⟩
theorem stringK_any (B b : Nat) (l : List UInt8) (w : World) (h : BldF B b l w) (hB : B ≤ w.heap.size) :
 Calls Tryz.prog 32 #[.pointer (some ⟨b, 0, none⟩)] w fun e w' => e = .returned (.string (tx l)) ∧ BldF B b l w' ∧ Below B w w' ∧ Kept b w w' :=
 (Any.Builder_String_any_k bstLays bstExtra B b l w h hB).mono fun _ _ ⟨he, h1, hb, hk⟩ => ⟨he, h1, hb, hk⟩
def blnRen : Ren := ⟨fun | 170 => 31 | n => n, fun | 0 => 0 | 3 => 3 | 5 => 5 | 37 => 59 | 70 => 58 | 72 => 61 | n => n, fun n => n⟩
theorem blnLays : Lays.n170 Tryz.prog blnRen :=
 { mixed := by kernel_rfl
   f170 := by kernel_rfl
   t0 := by kernel_rfl
   a0 := fun _ => by kernel_rfl
   z0 := fun _ => by kernel_rfl
   v0 := fun _ => by kernel_rfl
   t3 := by kernel_rfl
   a3 := fun _ => by kernel_rfl
   z3 := fun _ => by kernel_rfl
   v3 := fun _ => by kernel_rfl
   t37 := by kernel_rfl
   a37 := fun _ => by kernel_rfl
   z37 := fun _ => by kernel_rfl
   v37 := fun _ => by kernel_rfl
   t70 := by kernel_rfl
   a70 := fun _ => by kernel_rfl
   z70 := fun _ => by kernel_rfl
   v70 := fun _ => by kernel_rfl
   t72 := by kernel_rfl
   a72 := fun _ => by kernel_rfl
   z72 := fun _ => by kernel_rfl
   v72 := fun _ => by kernel_rfl }
theorem lenK_any (B b : Nat) (l : List UInt8) (w : World) (h : BldF B b l w) :
 Calls Tryz.prog 31 #[.pointer (some ⟨b, 0, none⟩)] w fun e w' => e = .returned (.int .i64 l.length) ∧ w = w' :=
 (Any.Builder_Len_f blnLays B b (Lib.byteCells l) w h).mono fun _ w' ⟨he, hw⟩ => ⟨by rw [he, Lib.byteCells_length], hw.symm⟩
theorem BldF.fresh (w : World) : BldF w.heap.size w.heap.size [] (w.alloc (.cells #[.pointer none, .slice none 0 0] 61)) := Lib.IsBuilderF.of (Lib.fresh_isBuilder _ _ w)
theorem BldF.old {B b : Nat} {l : List UInt8} {w w' : World} (h : BldF B b l w) (k : Below w.heap.size w w') : BldF B b l w' := by
 have key : ∀ p, Lib.BuilderAtF 61 5 B b p (Lib.byteCells l) w → Lib.BuilderAtF 61 5 B b p (Lib.byteCells l) w' := fun p h => by
  have hlt := h.lt
  obtain ⟨hB, v, hb, hown, hne⟩ := h
  refine ⟨hB, v, by rw [k.block b hlt]; exact hb, hown.kept (row := none) ⟨k.os, k.tape, k.output, k.size, fun i hi _ => k.block i hi⟩ ?_, hne⟩
  cases hv : v.ownBlock with
  | none => exact Or.inl rfl
  | some g => exact Or.inr (by simp)
 exact h.elim (fun h => Or.inl (key _ h)) (fun h => Or.inr (key _ h))
theorem BldF.cast {B b : Nat} {l l' : List UInt8} {w : World} (h : BldF B b l w) (e : l = l') : BldF B b l' w := e ▸ h
theorem BldF.lt {B b : Nat} {l : List UInt8} {w : World} (h : BldF B b l w) : b < w.heap.size := h.elim (fun h => h.lt) (fun h => h.lt)
theorem BldF.lo {B b : Nat} {l : List UInt8} {w : World} (h : BldF B b l w) : B ≤ b := h.elim (fun h => h.1) (fun h => h.1)
theorem Kept.refl (b : Nat) (w : World) : Kept b w w := Lib.OthersKept.refl _ _ _
theorem Kept.trans {b : Nat} {w w1 w2 : World} (h : Kept b w w1) (k : Kept b w1 w2) : Kept b w w2 := Lib.OthersKept.trans h k
theorem Kept.of_below {b : Nat} {w w' : World} (k : Below w.heap.size w w') : Kept b w w' := fun i o hi _ _ => by
 rw [k.block i (Array.getElem?_eq_some_iff.1 hi).1]; exact hi
def joiRen : Ren := ⟨fun | 156 => 25 | 165 => 65 | 166 => 24 | 169 => 32 | 240 => 64 | 241 => 106 | 276 => 105 | 277 => 171 | n => n, fun | 0 => 0 | 3 => 3 | 4 => 4 | 5 => 5 | 9 => 9 | 20 => 20 | 31 => 62 | 37 => 59 | 70 => 58 | 72 => 61 | 75 => 64 | 76 => 65 | 80 => 78 | 127 => 117 | 164 => 166 | n => n, fun n => n⟩
theorem joiLays : Lays.n156 Tryz.prog joiRen :=
 { mixed := by kernel_rfl
   f156 := by kernel_rfl
   f165 := by kernel_rfl
   f166 := by kernel_rfl
   f169 := by kernel_rfl
   f240 := by kernel_rfl
   f241 := by kernel_rfl
   f276 := by kernel_rfl
   f277 := by kernel_rfl
   t0 := by kernel_rfl
   a0 := fun _ => by kernel_rfl
   z0 := fun _ => by kernel_rfl
   v0 := fun _ => by kernel_rfl
   t3 := by kernel_rfl
   a3 := fun _ => by kernel_rfl
   z3 := fun _ => by kernel_rfl
   v3 := fun _ => by kernel_rfl
   t4 := by kernel_rfl
   a4 := fun _ => by kernel_rfl
   z4 := fun _ => by kernel_rfl
   v4 := fun _ => by kernel_rfl
   t9 := by kernel_rfl
   a9 := fun _ => by kernel_rfl
   z9 := fun _ => by kernel_rfl
   v9 := fun _ => by kernel_rfl
   t20 := by kernel_rfl
   a20 := fun _ => by kernel_rfl
   z20 := fun _ => by kernel_rfl
   v20 := fun _ => by kernel_rfl
   t31 := by kernel_rfl
   a31 := fun _ => by kernel_rfl
   z31 := fun _ => by kernel_rfl
   v31 := fun _ => by kernel_rfl
   t37 := by kernel_rfl
   a37 := fun _ => by kernel_rfl
   z37 := fun _ => by kernel_rfl
   v37 := fun _ => by kernel_rfl
   t70 := by kernel_rfl
   a70 := fun _ => by kernel_rfl
   z70 := fun _ => by kernel_rfl
   v70 := fun _ => by kernel_rfl
   t72 := by kernel_rfl
   a72 := fun _ => by kernel_rfl
   z72 := fun _ => by kernel_rfl
   v72 := fun _ => by kernel_rfl
   t75 := by kernel_rfl
   a75 := fun _ => by kernel_rfl
   z75 := fun _ => by kernel_rfl
   v75 := fun _ => by kernel_rfl
   t76 := by kernel_rfl
   a76 := fun _ => by kernel_rfl
   z76 := fun _ => by kernel_rfl
   v76 := fun _ => by kernel_rfl
   t127 := by kernel_rfl
   a127 := fun _ => by kernel_rfl
   z127 := fun _ => by kernel_rfl
   v127 := fun _ => by kernel_rfl
   t164 := by kernel_rfl
   a164 := fun _ => by kernel_rfl
   z164 := fun _ => by kernel_rfl
   v164 := fun _ => by kernel_rfl }
theorem joiExtra : Builder.Extra Tryz.prog joiRen :=
 { sizeBuilder := by kernel_rfl
   liesBuilder := by kernel_rfl
   t5 := by kernel_rfl
   a5 := fun _ => by kernel_rfl
   z5 := fun _ => by kernel_rfl
   v5 := fun _ => by kernel_rfl
   infoByte := by kernel_rfl
   cellsByte := by kernel_rfl
   sizeByte := by kernel_rfl
   neB5 := by decide }
theorem join2_any (bk c : Nat) (a b : ByteArray) (w : World) (h0 : w.cell? ⟨bk, 0, none⟩ = some (.string a)) (h1 : w.cell? ⟨bk, 1, none⟩ = some (.string b)) (hc : 2 ≤ c) (hl : a.size + b.size ≤ 100000000) :
 Calls Tryz.prog 25 #[.slice (some ⟨bk, 0, none⟩) 2 c, .string ⟨#[32]⟩] w (Gives (.string (tx (a.data.toList ++ 32 :: b.data.toList))) w) :=
 (Any.strings_Join joiLays joiExtra bk 0 c [a, b] ⟨#[32]⟩ w (fun j x hx => by
   match j, hx with
   | 0, hx => simp at hx; subst hx; exact h0
   | 1, hx => simp at hx; subst hx; exact h1) (block_lt_of_cell h0) (by simp) hc (by simp [Lib.join]; omega)).mono fun _ _ ⟨he, hb⟩ => ⟨by rw [he]; unfold tx; simp [Lib.join], hb⟩
theorem join3_any (bk c : Nat) (a b d : ByteArray) (w : World) (h0 : w.cell? ⟨bk, 0, none⟩ = some (.string a)) (h1 : w.cell? ⟨bk, 1, none⟩ = some (.string b)) (h2 : w.cell? ⟨bk, 2, none⟩ = some (.string d)) (hc : 3 ≤ c) (hl : a.size + b.size + d.size ≤ 100000000) :
 Calls Tryz.prog 25 #[.slice (some ⟨bk, 0, none⟩) 3 c, .string ⟨#[32]⟩] w (Gives (.string (tx (a.data.toList ++ 32 :: (b.data.toList ++ 32 :: d.data.toList)))) w) :=
 (Any.strings_Join joiLays joiExtra bk 0 c [a, b, d] ⟨#[32]⟩ w (fun j x hx => by
   match j, hx with
   | 0, hx => simp at hx; subst hx; exact h0
   | 1, hx => simp at hx; subst hx; exact h1
   | 2, hx => simp at hx; subst hx; exact h2) (block_lt_of_cell h0) (by simp) hc (by simp [Lib.join]; omega)).mono fun _ _ ⟨he, hb⟩ => ⟨by rw [he]; unfold tx; simp [Lib.join], hb⟩
end Go.Proofs.YtimllihegnokeaaGreatDoor.Ov
namespace Go.Proofs.YtimllihegnokeaaGreatDoor.Jo
open Go.ChangeShapes Go.WideShapes Go.ChangeAt Go.RowKit Ov
def PutQ (B b : Nat) (l : List UInt8) (w : World) (e : Ending) (w' : World) : Prop := e = .returned (.tuple #[]) ∧ BldF B b l w' ∧ Below B w w' ∧ Kept b w w'
theorem put2_any (B b : Nat) (l : List UInt8) (a d : ByteArray) (g c : Nat) (w : World) (h : BldF B b l w) (h0 : w.cell? ⟨g, 0, none⟩ = some (.string a)) (h1 : w.cell? ⟨g, 1, none⟩ = some (.string d)) (hc : 2 ≤ c) (hl : l.length + a.size + d.size ≤ 1000000) (hB : B ≤ w.heap.size) :
 Calls Tryz.prog 23 #[.slice (some ⟨g, 0, none⟩) 2 c, .pointer (some ⟨b, 0, none⟩)] w (PutQ B b (l ++ ((a.data.toList ++ 32 :: d.data.toList) ++ [10])) w) := by
 have HJ := Lib.hid (join2_any g c a d w h0 h1 hc (by omega))
 have HD := Lib.hid h
 have hz : (tx (a.data.toList ++ 32 :: d.data.toList) ++ ⟨#[10]⟩ : ByteArray).data.toList = (a.data.toList ++ 32 :: d.data.toList) ++ [10] := by rw [show (⟨#[10]⟩ : ByteArray) = tx [10] from rfl, tx_append, tx_list]
 have hs : (tx (a.data.toList ++ 32 :: d.data.toList) ++ ⟨#[10]⟩ : ByteArray).size = (a.data.toList ++ 32 :: d.data.toList).length + 1 := by rw [show (⟨#[10]⟩ : ByteArray) = tx [10] from rfl, tx_append, tx_size, List.length_append]; rfl
 have hj : (a.data.toList ++ 32 :: d.data.toList).length = a.size + d.size + 1 := by simp; omega
 have hfit : ¬ 9223372036854775807 < (tx (a.data.toList ++ 32 :: d.data.toList)).size + 1 := by rw [tx_size]; omega
 have HZ := Lib.hid hz; have HS := Lib.hid hs; have HL := Lib.hid hj
 clear h h0 h1 hz hs hj
 generalize (a.data.toList ++ 32 :: d.data.toList) = t at *
 go_enter Tryz.func23, Tryz.ntmps23
 go_wp2_with (fail)
 refine HJ.out.mono ?_
 rintro e w1 ⟨rfl, hb⟩
 have HB := Lib.hid hb
 have HD1 := Lib.hid (HD.out.old hb)
 clear hb
 go_wp2_with (fail)
 refine (writeK_any B b l _ w1 HD1.out (by have := HS.out; have := HL.out; omega) (by have := HB.out.size; omega)).mono ?_
 rintro e w2 ⟨rfl, hd, hb, hk⟩
 rw [HZ.out] at hd
 have HD2 := Lib.hid hd; have HB2 := Lib.hid hb; have HK2 := Lib.hid hk
 clear hd hb hk
 go_wp2_with (fail)
 refine bodyPost_end (results_none rfl _ _ _) rfl ?_
 exact ⟨rfl, HD2.out, (HB.out.mono hB).trans HB2.out, (Kept.of_below HB.out).trans HK2.out⟩
theorem put3_any (B b : Nat) (l : List UInt8) (a d f : ByteArray) (g c : Nat) (w : World) (h : BldF B b l w) (h0 : w.cell? ⟨g, 0, none⟩ = some (.string a)) (h1 : w.cell? ⟨g, 1, none⟩ = some (.string d)) (h2 : w.cell? ⟨g, 2, none⟩ = some (.string f)) (hc : 3 ≤ c) (hl : l.length + a.size + d.size + f.size ≤ 1000000) (hB : B ≤ w.heap.size) :
 Calls Tryz.prog 23 #[.slice (some ⟨g, 0, none⟩) 3 c, .pointer (some ⟨b, 0, none⟩)] w (PutQ B b (l ++ ((a.data.toList ++ 32 :: (d.data.toList ++ 32 :: f.data.toList)) ++ [10])) w) := by
 have HJ := Lib.hid (join3_any g c a d f w h0 h1 h2 hc (by omega))
 have HD := Lib.hid h
 have hz : (tx (a.data.toList ++ 32 :: (d.data.toList ++ 32 :: f.data.toList)) ++ ⟨#[10]⟩ : ByteArray).data.toList = (a.data.toList ++ 32 :: (d.data.toList ++ 32 :: f.data.toList)) ++ [10] := by rw [show (⟨#[10]⟩ : ByteArray) = tx [10] from rfl, tx_append, tx_list]
 have hs : (tx (a.data.toList ++ 32 :: (d.data.toList ++ 32 :: f.data.toList)) ++ ⟨#[10]⟩ : ByteArray).size = (a.data.toList ++ 32 :: (d.data.toList ++ 32 :: f.data.toList)).length + 1 := by rw [show (⟨#[10]⟩ : ByteArray) = tx [10] from rfl, tx_append, tx_size, List.length_append]; rfl
 have hj : (a.data.toList ++ 32 :: (d.data.toList ++ 32 :: f.data.toList)).length = a.size + d.size + f.size + 2 := by simp; omega
 have hfit : ¬ 9223372036854775807 < (tx (a.data.toList ++ 32 :: (d.data.toList ++ 32 :: f.data.toList))).size + 1 := by rw [tx_size]; omega
 have HZ := Lib.hid hz; have HS := Lib.hid hs; have HL := Lib.hid hj
 clear h h0 h1 h2 hz hs hj
 generalize (a.data.toList ++ 32 :: (d.data.toList ++ 32 :: f.data.toList)) = t at *
 go_enter Tryz.func23, Tryz.ntmps23
 go_wp2_with (fail)
 refine HJ.out.mono ?_
 rintro e w1 ⟨rfl, hb⟩
 have HB := Lib.hid hb
 have HD1 := Lib.hid (HD.out.old hb)
 clear hb
 go_wp2_with (fail)
 refine (writeK_any B b l _ w1 HD1.out (by have := HS.out; have := HL.out; omega) (by have := HB.out.size; omega)).mono ?_
 rintro e w2 ⟨rfl, hd, hb, hk⟩
 rw [HZ.out] at hd
 have HD2 := Lib.hid hd; have HB2 := Lib.hid hb; have HK2 := Lib.hid hk
 clear hd hb hk
 go_wp2_with (fail)
 refine bodyPost_end (results_none rfl _ _ _) rfl ?_
 exact ⟨rfl, HD2.out, (HB.out.mono hB).trans HB2.out, (Kept.of_below HB.out).trans HK2.out⟩
theorem BldF.store {B b q : Nat} {l : List UInt8} {w : World} (h : BldF B b l w) (hq : q ≠ b) {cs : Array Value} {t : TypeId} {fz : Nat × Nat} (ht : t ≠ 5) (hc : w.heap[q]? = some (.cells cs t fz)) (v : Value) : BldF B b l (w.setCell ⟨q, 0, none⟩ v) := by
 have key : ∀ p, Lib.BuilderAtF 61 5 B b p (Lib.byteCells l) w → Lib.BuilderAtF 61 5 B b p (Lib.byteCells l) (w.setCell ⟨q, 0, none⟩ v) := fun p h => by
  obtain ⟨hB, u, hb, hown, hne⟩ := h
  have hg : w.grownBy (w.setCell ⟨q, 0, none⟩ v) (some q) := ⟨rfl, rfl, rfl, by simp, fun k _ hk => Below.heap_setCell _ _ _ _ (fun e => hk (by rw [e]))⟩
  refine ⟨hB, u, by rw [Below.heap_setCell _ _ _ _ hq.symm]; exact hb, hown.kept (row := some q) hg ?_, hne⟩
  rcases hown.2 with ⟨rfl, _⟩ | ⟨g, cap, cur, fz', rfl, _, hgg, _⟩
  · exact Or.inl rfl
  · refine Or.inr fun e => ?_
    have e2 : g = q := by simpa [Value.ownBlock] using e
    subst e2
    rw [hc] at hgg; injection hgg with hgg; injection hgg with _ h2 _; exact ht h2
 exact h.elim (fun h => Or.inl (key _ h)) (fun h => Or.inr (key _ h))
structure Wr (b : Nat) (l : List UInt8) (x : Int) (w : World) : Prop where
 bl : BldF b b l w
 ft : w.heap[b + 1]? = some (.cells #[.int .i64 x] 27 (0, 0))
 fn : w.heap[b + 1 + 1]? = some (.cells #[.func (.func 23) #[] #[.pointer (some ⟨b, 0, none⟩)]] 68 (0, 0))
section
variable {b : Nat} {l l' : List UInt8} {x : Int} {w w' : World}
theorem Wr.lt (h : Wr b l x w) : b + 1 + 1 < w.heap.size := (Array.getElem?_eq_some_iff.1 h.fn).1
theorem Wr.next (h : Wr b l x w) (k : Below w.heap.size w w') : Wr b l x w' := ⟨h.bl.old k, by rw [k.block _ (by have := h.lt; omega)]; exact h.ft, by rw [k.block _ h.lt]; exact h.fn⟩
theorem Wr.put (h : Wr b l x w) (hb : BldF b b l' w') (k : Kept b w w') : Wr b l' x w' :=
 ⟨hb, k _ _ h.ft (by simp) (fun c fz e => by injection e with _ e _; exact absurd e (by decide)), k _ _ h.fn (by simp; omega) (fun c fz e => by injection e with _ e _; exact absurd e (by decide))⟩
theorem Wr.fault (h : Wr b l x w) : w.cell? ⟨b + 1, 0, none⟩ = some (.int .i64 x) := by unfold World.cell?; rw [h.ft]; rfl
theorem Wr.func (h : Wr b l x w) : w.cell? ⟨b + 1 + 1, 0, none⟩ = some (.func (.func 23) #[] #[.pointer (some ⟨b, 0, none⟩)]) := by unfold World.cell?; rw [h.fn]; rfl
theorem Wr.thaw (h : Wr b l x w) : w.frozen? ⟨b + 1, 0, none⟩ = false := by unfold World.frozen?; rw [h.ft]; rfl
theorem Wr.setx (h : Wr b l x w) (y : Int) : Wr b l y (w.setCell ⟨b + 1, 0, none⟩ (.int .i64 y)) :=
 ⟨BldF.store h.bl (by omega) (by decide) h.ft _, by
  rw [heap_setCell_same _ _ _ _ _ _ h.ft]; rfl, by rw [Below.heap_setCell _ _ _ _ (show b + 1 + 1 ≠ b + 1 by omega)]; exact h.fn⟩
theorem Wr.cast (h : Wr b l x w) (e : l = l') : Wr b l' x w := e ▸ h
end
theorem putw2 {b : Nat} {l : List UInt8} {x : Int} (a d : ByteArray) {w : World} (h : Wr b l x w) (hl : l.length + a.size + d.size ≤ 1000000) :
 Calls Tryz.prog 23 #[.slice (some ⟨w.heap.size, 0, none⟩) 2 2, .pointer (some ⟨b, 0, none⟩)] (w.alloc (.cells #[.string a, .string d] 9)) (fun e w' => e = .returned (.tuple #[]) ∧ Wr b (l ++ ((a.data.toList ++ 32 :: d.data.toList) ++ [10])) x w' ∧ Below b w w') := by
 have hk := box1 w (.cells #[.string a, .string d] 9)
 have hd := Blk.made w 9 [.string a, .string d] rfl
 have hb : b ≤ w.heap.size := by have := h.lt; omega
 refine (put2_any b b l a d w.heap.size 2 _ (h.bl.old hk) (hd.c 0 _ rfl) (hd.c 1 _ rfl) (Nat.le_refl _) hl (by simp; omega)).mono ?_
 rintro e w' ⟨rfl, h1, h2, h3⟩
 exact ⟨rfl, (h.next hk).put h1 h3, (hk.mono hb).trans h2⟩
theorem putw3 {b : Nat} {l : List UInt8} {x : Int} (a d f : ByteArray) {w : World} (h : Wr b l x w) (hl : l.length + a.size + d.size + f.size ≤ 1000000) :
 Calls Tryz.prog 23 #[.slice (some ⟨w.heap.size, 0, none⟩) 3 3, .pointer (some ⟨b, 0, none⟩)] (w.alloc (.cells #[.string a, .string d, .string f] 9)) (fun e w' => e = .returned (.tuple #[]) ∧ Wr b (l ++ ((a.data.toList ++ 32 :: (d.data.toList ++ 32 :: f.data.toList)) ++ [10])) x w' ∧ Below b w w') := by
 have hk := box1 w (.cells #[.string a, .string d, .string f] 9)
 have hd := Blk.made w 9 [.string a, .string d, .string f] rfl
 have hb : b ≤ w.heap.size := by have := h.lt; omega
 refine (put3_any b b l a d f w.heap.size 3 _ (h.bl.old hk) (hd.c 0 _ rfl) (hd.c 1 _ rfl) (hd.c 2 _ rfl) (Nat.le_refl _) hl (by simp; omega)).mono ?_
 rintro e w' ⟨rfl, h1, h2, h3⟩
 exact ⟨rfl, (h.next hk).put h1 h3, (hk.mono hb).trans h2⟩
end Go.Proofs.YtimllihegnokeaaGreatDoor.Jo
namespace Go.Proofs.YtimllihegnokeaaGreatDoor.Tp
open Go.ChangeShapes Go.WideShapes Go.ChangeAt Go.RowKit Ov
theorem one_text (q : World) (g : Nat) (x : Nat) (hx : x < 256) (h : q.cell? ⟨g, 0, none⟩ = some (.int .u8 (x : Int))) :
 (convert 59 9 (.slice (some ⟨g, 0, none⟩) 1 1)).run Tryz.prog q = .ok (.string (tx [UInt8.ofNat x])) q :=
 run_text rfl fun j hj => by
  have : j = 0 := by simp at hj; omega
  subst this
  rw [Nat.zero_add, h]
  show some (Value.int .u8 (x : Int)) = some (Value.int .u8 (((UInt8.ofNat x).toNat : Nat) : Int))
  rw [u8_nat hx]
end Go.Proofs.YtimllihegnokeaaGreatDoor.Tp
