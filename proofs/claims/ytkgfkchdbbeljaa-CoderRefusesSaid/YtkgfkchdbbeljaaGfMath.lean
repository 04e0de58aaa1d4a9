/-
  The field of 256 elements, in plain numbers: doubling, the powers of 2, the logarithm, the product, and their laws. Nothing of the program is imported.
-/
namespace Go.Proofs.Ytkgfkchdbbeljaa.Gf

def dbl (x : Nat) : Nat := if 255 < x * 2 then (x * 2) ^^^ 285 else x * 2
def pw : Nat → Nat | 0 => 1 | n + 1 => dbl (pw n)
/-- The logarithm, by search among the first 255 powers; 0 of 0. -/
def find : Nat → Nat → Nat → Nat → Nat
  | 0, _, _, _ => 0
  | f + 1, x, p, n => if p = x then n else find f x (dbl p) (n + 1)
def lg (x : Nat) : Nat := find 255 x 1 0
def gm (a b : Nat) : Nat := if a = 0 ∨ b = 0 then 0 else pw ((lg a + lg b) % 255)

theorem pw_le : ∀ n, n < 255 → 1 ≤ pw n ∧ pw n ≤ 255 := by decide +kernel
theorem pw_lg : ∀ x, x < 256 → x ≠ 0 → pw (lg x) = x := by decide +kernel
theorem lg_le : ∀ x, x < 256 → lg x ≤ 254 := by decide +kernel
theorem lg_pw : ∀ n, n < 255 → lg (pw n) = n := by decide +kernel
theorem lg0 : lg 0 = 0 := by decide +kernel
theorem xor_lt {x y : Nat} (hx : x < 256) (hy : y < 256) : x ^^^ y < 256 := Nat.xor_lt_two_pow (n := 8) hx hy
theorem dbl_form : ∀ x, x < 256 → dbl x = x * 2 ^^^ 285 * (x / 128) := by decide +kernel
theorem dbl_lt : ∀ x, x < 256 → dbl x < 256 := by decide +kernel
theorem dbl_add (x y : Nat) (hx : x < 256) (hy : y < 256) : dbl (x ^^^ y) = dbl x ^^^ dbl y := by
  rw [dbl_form _ (xor_lt hx hy), dbl_form x hx, dbl_form y hy]
  have e1 : (x ^^^ y) * 2 = x * 2 ^^^ y * 2 := by
    have := Nat.shiftLeft_xor_distrib (a := x) (b := y) (i := 1)
    simpa [Nat.shiftLeft_eq] using this
  have e2 : (x ^^^ y) / 128 = x / 128 ^^^ y / 128 := by
    have := Nat.shiftRight_xor_distrib (a := x) (b := y) (i := 7)
    simpa [Nat.shiftRight_eq_div_pow] using this
  have e3 : ∀ u, u < 2 → ∀ v, v < 2 → 285 * (u ^^^ v) = 285 * u ^^^ 285 * v := by decide
  rw [e1, e2, e3 (x / 128) (by omega) (y / 128) (by omega)]
  ac_rfl

/-- 'x' doubled 'n' times. -/
def dn : Nat → Nat → Nat | 0, x => x | n + 1, x => dbl (dn n x)
theorem dn_lt (n x : Nat) (hx : x < 256) : dn n x < 256 := by
  induction n with
  | zero => exact hx
  | succ n ih => exact dbl_lt _ ih
theorem dn_pw (n m : Nat) : dn n (pw m) = pw (n + m) := by
  induction n with
  | zero => simp [dn]
  | succ n ih => rw [dn, ih, Nat.succ_add]; rfl
theorem dn_add (n x y : Nat) (hx : x < 256) (hy : y < 256) : dn n (x ^^^ y) = dn n x ^^^ dn n y := by
  induction n with
  | zero => rfl
  | succ n ih => rw [dn, ih, dbl_add _ _ (dn_lt n x hx) (dn_lt n y hy)]; rfl
theorem dn_zero (n : Nat) : dn n 0 = 0 := by
  induction n with
  | zero => rfl
  | succ n ih => rw [dn, ih]; rfl
theorem pw255 : pw 255 = 1 := by decide +kernel
theorem pw_round (n : Nat) : pw (n + 255) = pw n := by
  rw [← dn_pw n 255, pw255]; exact dn_pw n 0
theorem pw_mul (n k : Nat) : pw (n + 255 * k) = pw n := by
  induction k with
  | zero => rfl
  | succ k ih => rw [Nat.mul_succ, ← Nat.add_assoc, pw_round, ih]
theorem pw_mod (n : Nat) : pw (n % 255) = pw n := by
  have h := pw_mul (n % 255) (n / 255)
  rw [Nat.mod_add_div] at h; exact h.symm
theorem pw_bd (n : Nat) : 1 ≤ pw n ∧ pw n ≤ 255 := by
  rw [← pw_mod]; exact pw_le _ (Nat.mod_lt _ (by omega))

theorem gm_dn (a b : Nat) (_ : a < 256) (hb : b < 256) (h : a ≠ 0) : gm a b = dn (lg a) b := by
  unfold gm
  by_cases h0 : b = 0
  · rw [if_pos (Or.inr h0), h0, dn_zero]
  · rw [if_neg (by omega), pw_mod, ← dn_pw, pw_lg b hb h0]
theorem gm_zero (b : Nat) : gm 0 b = 0 := by simp [gm]
theorem gm_zero' (b : Nat) : gm b 0 = 0 := by simp [gm]
theorem gm_lt (a b : Nat) : gm a b < 256 := by
  unfold gm; split
  · omega
  · have := pw_bd ((lg a + lg b) % 255); omega
theorem gm_ne (a b : Nat) (ha : a ≠ 0) (hb : b ≠ 0) : gm a b ≠ 0 := by
  unfold gm; rw [if_neg (by omega)]
  have := pw_bd ((lg a + lg b) % 255); omega
theorem gm_comm (a b : Nat) : gm a b = gm b a := by
  unfold gm; rw [Nat.add_comm]; by_cases h : a = 0 <;> by_cases k : b = 0 <;> simp [h, k]
theorem lg_gm (a b : Nat) (ha : a ≠ 0) (hb : b ≠ 0) : lg (gm a b) = (lg a + lg b) % 255 := by
  unfold gm; rw [if_neg (by omega)]; exact lg_pw _ (Nat.mod_lt _ (by omega))
theorem gm_assoc (a b c : Nat) : gm a (gm b c) = gm (gm a b) c := by
  by_cases ha : a = 0
  · subst ha; rw [gm_zero, gm_zero, gm_zero]
  by_cases hb : b = 0
  · subst hb; rw [gm_zero, gm_zero', gm_zero]
  by_cases hc : c = 0
  · subst hc; rw [gm_zero', gm_zero', gm_zero']
  have h1 := gm_ne a b ha hb
  have h2 := gm_ne b c hb hc
  have e1 := lg_gm a b ha hb
  have e2 := lg_gm b c hb hc
  rw [show gm a (gm b c) = pw ((lg a + lg (gm b c)) % 255) from if_neg (by omega), show gm (gm a b) c = pw ((lg (gm a b) + lg c) % 255) from if_neg (by omega), e1, e2]
  congr 1; omega
theorem gm_add (a b c : Nat) (ha : a < 256) (hb : b < 256) (hc : c < 256) : gm a (b ^^^ c) = gm a b ^^^ gm a c := by
  by_cases h : a = 0
  · subst h; simp [gm_zero]
  · rw [gm_dn a _ ha (xor_lt hb hc) h, gm_dn a b ha hb h, gm_dn a c ha hc h, dn_add _ _ _ hb hc]
theorem gm_one (a : Nat) (ha : a < 256) : gm a 1 = a := by
  by_cases h : a = 0
  · subst h; exact gm_zero 1
  · rw [gm_dn a 1 ha (by omega) h, show (1 : Nat) = pw 0 from rfl, dn_pw]; exact pw_lg a ha h
theorem gm_pw (n m : Nat) : gm (pw n) (pw m) = pw (n + m) := by
  have h1 := pw_bd n
  have h2 := pw_bd m
  rw [gm_dn _ _ (by omega) (by omega) (by omega), dn_pw]
  rw [← pw_mod (lg (pw n) + m), ← pw_mod (n + m), ← pw_mod n, lg_pw _ (Nat.mod_lt _ (by omega))]
  congr 1; omega
/-- The quotient. -/
def gd (a b : Nat) : Nat := if a = 0 then 0 else pw ((lg a + 255 - lg b) % 255)
theorem gd_gm (a b : Nat) (ha : a < 256) (hb : b < 256) (h : b ≠ 0) : gm (gd a b) b = a := by
  unfold gd; split
  · rename_i h0; subst h0; exact gm_zero b
  · rename_i h0
    have e : gm (pw ((lg a + 255 - lg b) % 255)) b = gm (pw ((lg a + 255 - lg b) % 255)) (pw (lg b)) := by rw [pw_lg b hb h]
    have l := lg_le b hb
    rw [e, gm_pw, ← pw_mod, show ((lg a + 255 - lg b) % 255 + lg b) % 255 = lg a % 255 from by omega, pw_mod, pw_lg a ha h0]
/-- 2 to the n, of any whole n. -/
def ex (n : Int) : Nat := pw (n % 255).toNat
theorem ex_add (n m : Int) : gm (ex n) (ex m) = ex (n + m) := by
  unfold ex
  rw [gm_pw, ← pw_mod]
  congr 1; omega
theorem ex_lt (n : Int) : ex n < 256 := by have := pw_bd (n % 255).toNat; unfold ex; omega
theorem ex_lg (a : Nat) (ha : a < 256) (h : a ≠ 0) : ex (lg a) = a := by
  have l := lg_le a ha
  unfold ex
  rw [show ((lg a : Int) % 255).toNat = lg a from by omega, pw_lg a ha h]
/-- A power, of any whole exponent. -/
def gp (a : Nat) (n : Int) : Nat := if n = 0 then 1 else if a = 0 then 0 else pw (((lg a : Int) * (n % 255)) % 255).toNat
theorem gp_ex (a : Nat) (n : Int) (h : a ≠ 0) : gp a n = ex (lg a * n) := by
  unfold gp ex
  by_cases hn : n = 0
  · subst hn; rw [if_pos rfl, Int.mul_zero]; rfl
  · have e : ((lg a : Int) * (n % 255)) % 255 = ((lg a : Int) * n) % 255 := by
      rw [Int.mul_emod (lg a : Int) (n % 255), Int.emod_emod, ← Int.mul_emod]
    rw [if_neg hn, if_neg h, e]
theorem gp_lt (a : Nat) (n : Int) : gp a n < 256 := by
  by_cases h : a = 0
  · unfold gp; rw [if_pos h]; split <;> omega
  · rw [gp_ex a n h]; exact ex_lt _
theorem gp_add (a : Nat) (n m : Int) (h : a ≠ 0) : gm (gp a n) (gp a m) = gp a (n + m) := by
  rw [gp_ex a n h, gp_ex a m h, gp_ex a (n + m) h, ex_add, Int.mul_add]
theorem gp_255 (a : Nat) (h : a ≠ 0) : gp a 255 = 1 := by
  rw [gp_ex a 255 h]; unfold ex
  rw [Int.mul_emod_left]; rfl
theorem gp_neg (a : Nat) (n : Int) (h : a ≠ 0) : gm (gp a n) (gp a (-n)) = 1 := by
  rw [gp_add a _ _ h, Int.add_right_neg]; rfl
theorem gm_square (a b : Nat) (ha : a < 256) (hb : b < 256) : gm (a ^^^ b) (a ^^^ b) = gm a a ^^^ gm b b := by
  rw [gm_add _ a b (xor_lt ha hb) ha hb, gm_comm (a ^^^ b) a, gm_comm (a ^^^ b) b, gm_add a a b ha ha hb, gm_add b a b hb ha hb, gm_comm b a]
  rw [Nat.xor_assoc, ← Nat.xor_assoc (gm a b) (gm a b), Nat.xor_self, Nat.zero_xor]
end Go.Proofs.Ytkgfkchdbbeljaa.Gf
