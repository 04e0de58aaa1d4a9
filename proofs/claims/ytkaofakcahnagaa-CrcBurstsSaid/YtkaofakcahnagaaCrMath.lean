/-
  The sum by which spoilt bytes are told, in plain numbers: one step, eight steps, a text's sum; that it is linear; that a change within 32 bits side by side changes it. Nothing of the program is imported.
-/
namespace Go.Proofs.Ytkaofakcahnagaa.Cr

theorem xor_zero {a b : Nat} (h : a ^^^ b = 0) : a = b := by
  have := congrArg (fun x => x ^^^ b) h
  simpa [Nat.xor_assoc] using this
theorem xor_back (a b : Nat) : a ^^^ (a ^^^ b) = b := by rw [← Nat.xor_assoc, Nat.xor_self, Nat.zero_xor]
/-- One of the eight steps. -/
def hv (n : Nat) : Nat := if n % 2 = 1 then (n / 2) ^^^ 3988292384 else n / 2
/-- k steps. -/
def hs : Nat → Nat → Nat | 0, n => n | k + 1, n => hs k (hv n)
theorem xor_half (a b : Nat) : (a ^^^ b) / 2 = a / 2 ^^^ b / 2 := by
  have := Nat.shiftRight_xor_distrib (a := a) (b := b) (i := 1)
  simpa [Nat.shiftRight_eq_div_pow] using this
theorem hv_form (n : Nat) : hv n = n / 2 ^^^ 3988292384 * (n % 2) := by
  unfold hv
  by_cases h : n % 2 = 1
  · rw [if_pos h, h]
  · rw [if_neg h, show n % 2 = 0 by omega]; simp
theorem hv_xor (a b : Nat) : hv (a ^^^ b) = hv a ^^^ hv b := by
  rw [hv_form, hv_form a, hv_form b, xor_half]
  have e : (a ^^^ b) % 2 = (a % 2) ^^^ (b % 2) := by
    have := Nat.xor_mod_two_pow (a := a) (b := b) (n := 1)
    simpa using this
  have e3 : ∀ u, u < 2 → ∀ v, v < 2 → 3988292384 * (u ^^^ v) = 3988292384 * u ^^^ 3988292384 * v := by decide
  rw [e, e3 (a % 2) (by omega) (b % 2) (by omega)]
  ac_rfl
theorem hs_xor (k a b : Nat) : hs k (a ^^^ b) = hs k a ^^^ hs k b := by
  induction k generalizing a b with
  | zero => rfl
  | succ k ih => rw [hs, hv_xor, ih]; rfl
theorem hs_add (j k n : Nat) : hs (j + k) n = hs k (hs j n) := by
  induction j generalizing n with
  | zero => rw [Nat.zero_add]; rfl
  | succ j ih => rw [Nat.succ_add, hs, ih]; rfl
theorem hv_lt {n : Nat} (h : n < 4294967296) : hv n < 4294967296 := by
  unfold hv
  split
  · exact Nat.xor_lt_two_pow (n := 32) (by omega) (by omega)
  · omega
theorem hs_lt (k : Nat) {n : Nat} (h : n < 4294967296) : hs k n < 4294967296 := by
  induction k generalizing n with
  | zero => exact h
  | succ k ih => exact ih (hv_lt h)
theorem hv_zero {n : Nat} (h : n < 4294967296) (e : hv n = 0) : n = 0 := by
  unfold hv at e
  split at e
  · have e2 : n / 2 = 3988292384 := xor_zero e
    omega
  · omega
theorem hs_zero (k : Nat) {n : Nat} (h : n < 4294967296) (e : hs k n = 0) : n = 0 := by
  induction k generalizing n with
  | zero => exact e
  | succ k ih => exact hv_zero h (ih (hv_lt h) e)
theorem hs0 (k : Nat) : hs k 0 = 0 := by
  induction k with
  | zero => rfl
  | succ k ih => exact ih
theorem hv_two (n : Nat) : hv (n * 2) = n := by
  unfold hv; rw [if_neg (by omega)]; omega
theorem hs_pow (k n : Nat) : hs k (n * 2 ^ k) = n := by
  induction k generalizing n with
  | zero => simp [hs]
  | succ k ih => rw [hs, Nat.pow_succ, ← Nat.mul_assoc, hv_two, ih]
/-- A byte. -/
def st (n : Nat) (b : UInt8) : Nat := hs 8 (n ^^^ b.toNat)
theorem split8 (n : Nat) : n = (n / 256 * 2 ^ 8) ^^^ (n % 256) := by
  apply Nat.eq_of_testBit_eq
  intro i
  have h1 : (n / 256 * 2 ^ 8).testBit i = (decide (8 ≤ i) && n.testBit i) := by
    rw [Nat.testBit_mul_two_pow]
    by_cases h : 8 ≤ i
    · have : (n / 256).testBit (i - 8) = n.testBit i := by
        rw [show (256 : Nat) = 2 ^ 8 from rfl, Nat.testBit_div_two_pow]
        congr 1; omega
      simp [h, this]
    · simp [h]
  have h2 : (n % 256).testBit i = (decide (i < 8) && n.testBit i) := by
    rw [show (256 : Nat) = 2 ^ 8 from rfl, Nat.testBit_mod_two_pow]
  rw [Nat.testBit_xor, h1, h2]
  by_cases h : 8 ≤ i
  · simp [h, show ¬ i < 8 by omega]
  · simp [h, show i < 8 by omega]
/-- By the table. -/
theorem st_tab (n : Nat) (b : UInt8) : st n b = n / 256 ^^^ hs 8 ((n % 256) ^^^ b.toNat) := by
  have : n ^^^ b.toNat = (n / 256 * 2 ^ 8) ^^^ ((n % 256) ^^^ b.toNat) := by
    rw [← Nat.xor_assoc, ← split8]
  unfold st
  rw [this, hs_xor, hs_pow]
theorem st_lt {n : Nat} (b : UInt8) (h : n < 4294967296) : st n b < 4294967296 :=
  hs_lt 8 (Nat.xor_lt_two_pow (n := 32) h (by have := b.toNat_lt; omega))
/-- A text. -/
def run (n : Nat) (l : List UInt8) : Nat := l.foldl st n
theorem run_lt {n : Nat} (l : List UInt8) (h : n < 4294967296) : run n l < 4294967296 := by
  induction l generalizing n with
  | nil => exact h
  | cons b l ih => exact ih (st_lt b h)
theorem run_snoc (n : Nat) (l : List UInt8) (b : UInt8) : run n (l ++ [b]) = st (run n l) b := by simp [run, List.foldl_append]
theorem run_append (n : Nat) (a b : List UInt8) : run n (a ++ b) = run (run n a) b := by simp [run, List.foldl_append]
/-- All bits turned. -/
def nt (n : Nat) : Nat := 4294967295 ^^^ n
theorem nt_eq (n : Nat) : nt n = 4294967295 ^^^ n := rfl
theorem nt_lt {n : Nat} (h : n < 4294967296) : nt n < 4294967296 := Nat.xor_lt_two_pow (n := 32) (by omega) h
theorem nt_nt (n : Nat) : nt (nt n) = n := by
  rw [nt_eq (nt n), nt_eq n, xor_back]
/-- The sum of a text whose sum is s, and another one behind it. -/
def mo (s : Nat) (l : List UInt8) : Nat := nt (run (nt s) l)
/-- The sum of a text. -/
def sm (l : List UInt8) : Nat := mo 0 l
theorem mo_lt {s : Nat} (l : List UInt8) (h : s < 4294967296) : mo s l < 4294967296 := nt_lt (run_lt l (nt_lt h))
theorem sm_lt (l : List UInt8) : sm l < 4294967296 := by unfold sm; exact mo_lt l (by omega)
theorem mo_mo (s : Nat) (a b : List UInt8) : mo (mo s a) b = mo s (a ++ b) := by unfold mo; rw [nt_nt, run_append]
theorem mo_sm (a b : List UInt8) : mo (sm a) b = sm (a ++ b) := mo_mo 0 a b
theorem sm_run (l : List UInt8) : sm l = 4294967295 ^^^ run 4294967295 l := by
  unfold sm mo
  rw [show nt 0 = 4294967295 from Nat.xor_zero _]; unfold nt; rfl

/-! ### The whole text as one number -/
/-- The bits of a text, the first lowest. -/
def bv : List UInt8 → Nat | [] => 0 | b :: l => b.toNat ^^^ bv l * 2 ^ 8
theorem run_bv (n : Nat) (l : List UInt8) : run n l = hs (8 * l.length) (n ^^^ bv l) := by
  induction l generalizing n with
  | nil => simp [run, bv, hs]
  | cons b l ih =>
    show run (st n b) l = _
    rw [ih, List.length_cons, Nat.mul_succ, Nat.add_comm, hs_add, bv, ← Nat.xor_assoc, hs_xor 8, hs_pow]
    rfl
theorem xor_mul (a b k : Nat) : (a ^^^ b) * 2 ^ k = a * 2 ^ k ^^^ b * 2 ^ k := by
  have := Nat.shiftLeft_xor_distrib (a := a) (b := b) (i := k)
  simpa [Nat.shiftLeft_eq] using this
/-- A byte changed. -/
theorem bv_set (l : List UInt8) (p : Nat) (x : UInt8) (h : p < l.length) : bv (l.set p (l[p] ^^^ x)) = bv l ^^^ x.toNat * 2 ^ (8 * p) := by
  induction l generalizing p with
  | nil => simp at h
  | cons b l ih =>
    cases p with
    | zero =>
      simp only [List.set_cons_zero, List.getElem_cons_zero, bv, UInt8.toNat_xor, Nat.mul_zero, Nat.pow_zero, Nat.mul_one]
      ac_rfl
    | succ p =>
      simp only [List.set_cons_succ, List.getElem_cons_succ, bv]
      rw [ih p (by simpa using h), xor_mul, Nat.xor_assoc]
      congr 2
      rw [Nat.mul_assoc, ← Nat.pow_add]; rfl
/-- Texts as long whose bits differ by c, from the f-th on: their sums differ, if c is below 2^32 and not nothing. -/
theorem burst {l m : List UInt8} {c f : Nat} (hl : m.length = l.length) (e : bv m = bv l ^^^ c * 2 ^ f) (h0 : c ≠ 0) (hc : c < 4294967296) (hf : f ≤ 8 * l.length) : sm m ≠ sm l := by
  intro he
  rw [sm_run, sm_run] at he
  have he : run 4294967295 m = run 4294967295 l := by
    have := congrArg (fun x => 4294967295 ^^^ x) he
    simpa [← Nat.xor_assoc] using this
  rw [run_bv, run_bv, hl, e, ← Nat.xor_assoc, hs_xor] at he
  have hz : hs (8 * l.length) (c * 2 ^ f) = 0 := by
    have := congrArg (fun x => hs (8 * l.length) (4294967295 ^^^ bv l) ^^^ x) he
    simpa [← Nat.xor_assoc] using this
  rw [show 8 * l.length = f + (8 * l.length - f) by omega, hs_add, hs_pow] at hz
  exact h0 (hs_zero _ hc hz)
/-- Three texts as long, made one. -/
theorem run_three {a b c d : List UInt8} (n : Nat) (hb : b.length = a.length) (hc : c.length = a.length) (hd : d.length = a.length) (e : bv d = bv a ^^^ bv b ^^^ bv c) : run n a ^^^ run n b ^^^ run n c = run n d := by
  rw [run_bv, run_bv n b, run_bv n c, run_bv n d, hb, hc, hd, ← hs_xor, ← hs_xor, e]
  congr 1
  have : n ^^^ n = 0 := Nat.xor_self n
  calc n ^^^ bv a ^^^ (n ^^^ bv b) ^^^ (n ^^^ bv c) = (n ^^^ n) ^^^ (n ^^^ (bv a ^^^ bv b ^^^ bv c)) := by ac_rfl
    _ = n ^^^ (bv a ^^^ bv b ^^^ bv c) := by rw [this, Nat.zero_xor]
theorem sm_three {a b c d : List UInt8} (hb : b.length = a.length) (hc : c.length = a.length) (hd : d.length = a.length) (e : bv d = bv a ^^^ bv b ^^^ bv c) : sm a ^^^ sm b ^^^ sm c = sm d := by
  rw [sm_run, sm_run b, sm_run c, sm_run d, ← run_three 4294967295 hb hc hd e]
  have : (4294967295 ^^^ 4294967295 : Nat) = 0 := Nat.xor_self _
  calc 4294967295 ^^^ run 4294967295 a ^^^ (4294967295 ^^^ run 4294967295 b) ^^^ (4294967295 ^^^ run 4294967295 c)
      = (4294967295 ^^^ 4294967295) ^^^ (4294967295 ^^^ (run 4294967295 a ^^^ run 4294967295 b ^^^ run 4294967295 c)) := by ac_rfl
    _ = _ := by rw [this, Nat.zero_xor]
theorem bv_snoc (l : List UInt8) (x : UInt8) : bv (l ++ [x]) = bv l ^^^ x.toNat * 2 ^ (8 * l.length) := by
  induction l with
  | nil => simp [bv]
  | cons b l ih =>
    simp only [List.cons_append, bv, List.length_cons]
    rw [ih, xor_mul, Nat.xor_assoc]
    congr 2
    rw [Nat.mul_assoc, ← Nat.pow_add]; rfl

/-! ### The bytes of a sum -/
def by8 (x i : Nat) : UInt8 := UInt8.ofNat (x / 2 ^ (8 * i))
def sb (x : Nat) : List UInt8 := [by8 x 0, by8 x 1, by8 x 2, by8 x 3]
theorem sb_length (x : Nat) : (sb x).length = 4 := rfl
theorem by8_n (x i : Nat) : (by8 x i).toNat = x / 2 ^ (8 * i) % 256 := by simp [by8]
theorem sb_inj {x y : Nat} (hx : x < 4294967296) (hy : y < 4294967296) (h : sb x = sb y) : x = y := by
  simp only [sb, List.cons.injEq, and_true] at h
  obtain ⟨h0, h1, h2, h3⟩ := h
  have h0 := congrArg UInt8.toNat h0
  have h1 := congrArg UInt8.toNat h1
  have h2 := congrArg UInt8.toNat h2
  have h3 := congrArg UInt8.toNat h3
  simp only [by8_n] at h0 h1 h2 h3
  simp at h0 h1 h2 h3
  omega
/-- A sealed text. -/
def sl (l : List UInt8) : List UInt8 := l ++ sb (sm l)

/-! ### The changes, one bit after another -/
/-- The first i bits of a change, as far as they lie below m. -/
def chg (c m : Nat) : Nat → Nat
  | 0 => 0
  | i + 1 => if c / 2 ^ i % 2 = 1 ∧ i < m then chg c m i ^^^ 2 ^ i else chg c m i
theorem chg_lt (c m i : Nat) : chg c m i < 2 ^ i := by
  induction i with
  | zero => simp [chg]
  | succ i ih =>
    have h2 : 2 ^ (i + 1) = 2 ^ i + 2 ^ i := by rw [Nat.pow_succ]; omega
    rw [chg]
    split
    · exact Nat.xor_lt_two_pow (by omega) (by omega)
    · omega
theorem chg_ne (c m i : Nat) : chg c m i ^^^ 2 ^ i ≠ 0 := by
  intro e
  have := xor_zero e
  have := chg_lt c m i
  omega
end Go.Proofs.Ytkaofakcahnagaa.Cr
