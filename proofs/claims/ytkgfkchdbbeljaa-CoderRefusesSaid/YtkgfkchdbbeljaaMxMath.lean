/-
  Rows over the field of 256 elements, in plain functions: sums, products, what undoes rows, rows that hang on each other, powers. Nothing of the program is imported.
-/
import Derived.Test.YtkgfkchdbbeljaaGfMath
namespace Go.Proofs.Ytkgfkchdbbeljaa.Mx
open Go.Proofs.Ytkgfkchdbbeljaa.Gf

/-- A byte, as an element of the field. -/
structure K where
  n : Nat
  h : n < 256
theorem K.eq {a b : K} (e : a.n = b.n) : a = b := by
  cases a; cases b; cases e; rfl
instance : Add K := ⟨fun a b => ⟨a.n ^^^ b.n, xor_lt a.h b.h⟩⟩
instance : Mul K := ⟨fun a b => ⟨gm a.n b.n, gm_lt _ _⟩⟩
instance : OfNat K 0 := ⟨⟨0, by decide⟩⟩
instance : OfNat K 1 := ⟨⟨1, by decide⟩⟩
theorem add_n (a b : K) : (a + b).n = a.n ^^^ b.n := rfl
theorem mul_n (a b : K) : (a * b).n = gm a.n b.n := rfl
theorem zero_n : (0 : K).n = 0 := rfl
theorem one_n : (1 : K).n = 1 := rfl
theorem ne0 {a : K} (h : a ≠ 0) : a.n ≠ 0 := fun e => h (K.eq e)
theorem n_eq0 {a : K} : a.n = 0 ↔ a = 0 := ⟨fun e => K.eq e, fun e => by rw [e]; rfl⟩
theorem addc (a b : K) : a + b = b + a := K.eq (Nat.xor_comm _ _)
theorem adda (a b c : K) : a + b + c = a + (b + c) := K.eq (Nat.xor_assoc _ _ _)
theorem add0 (a : K) : a + 0 = a := K.eq (Nat.xor_zero _)
theorem zadd (a : K) : 0 + a = a := K.eq (Nat.zero_xor _)
theorem add2 (a : K) : a + a = 0 := K.eq (Nat.xor_self _)
theorem mulc (a b : K) : a * b = b * a := K.eq (gm_comm _ _)
theorem mula (a b c : K) : a * b * c = a * (b * c) := K.eq (gm_assoc _ _ _).symm
theorem mul1 (a : K) : a * 1 = a := K.eq (gm_one _ a.h)
theorem onem (a : K) : 1 * a = a := by rw [mulc, mul1]
theorem mul0 (a : K) : a * 0 = 0 := K.eq (gm_zero' a.n)
theorem zmul (a : K) : 0 * a = 0 := K.eq (gm_zero a.n)
theorem muld (a b c : K) : a * (b + c) = a * b + a * c := K.eq (gm_add _ _ _ a.h b.h c.h)
theorem dmul (a b c : K) : (b + c) * a = b * a + c * a := by rw [mulc, muld, mulc a b, mulc a c]
instance : Std.Associative (α := K) (· + ·) := ⟨adda⟩
instance : Std.Commutative (α := K) (· + ·) := ⟨addc⟩
instance : Std.Associative (α := K) (· * ·) := ⟨mula⟩
instance : Std.Commutative (α := K) (· * ·) := ⟨mulc⟩
theorem nozero {a b : K} (h : a * b = 0) (ha : a ≠ 0) : b = 0 := by
  by_cases hb : b = 0
  · exact hb
  · exact absurd (congrArg K.n h) (gm_ne _ _ (ne0 ha) (ne0 hb))
theorem add_eq0 {a b : K} (h : a + b = 0) : a = b := by
  have : a + b + b = 0 + b := by rw [h]
  rwa [adda, add2, add0, zadd] at this
theorem gd_lt' (a b : Nat) : gd a b < 256 := by
  unfold gd; split
  · omega
  · have := pw_bd ((lg a + 255 - lg b) % 255); omega
/-- The quotient. -/
def kd (a b : K) : K := ⟨gd a.n b.n, gd_lt' _ _⟩
theorem kd_mul (a b : K) (h : b ≠ 0) : kd a b * b = a := K.eq (gd_gm _ _ a.h b.h (ne0 h))
theorem kd_form (a b : K) (h : b ≠ 0) : kd a b = kd 1 b * a := by
  have e : (kd a b + kd 1 b * a) * b = 0 := by
    rw [dmul, kd_mul a b h, mula, mulc a b, ← mula, kd_mul 1 b h, onem, add2]
  have := nozero (by rw [mulc]; exact e) h
  exact add_eq0 this
theorem one_ne : (1 : K) ≠ 0 := fun e => absurd (congrArg K.n e) (by decide)
theorem kd_ne (b : K) (h : b ≠ 0) : b * kd 1 b = 1 := by rw [mulc]; exact kd_mul 1 b h

/-! ### Sums -/
def S : Nat → (Nat → K) → K
  | 0, _ => 0
  | n + 1, f => S n f + f n
theorem S_congr {n : Nat} {f g : Nat → K} (h : ∀ i, i < n → f i = g i) : S n f = S n g := by
  induction n with
  | zero => rfl
  | succ n ih => rw [S, S, ih (fun i hi => h i (by omega)), h n (by omega)]
theorem S_zero (n : Nat) : S n (fun _ => 0) = 0 := by
  induction n with
  | zero => rfl
  | succ n ih => rw [S, ih, add0]
theorem S_add (n : Nat) (f g : Nat → K) : S n (fun i => f i + g i) = S n f + S n g := by
  induction n with
  | zero => exact (add0 0).symm
  | succ n ih => rw [S, S, S, ih]; ac_rfl
theorem S_mul (n : Nat) (c : K) (f : Nat → K) : c * S n f = S n (fun i => c * f i) := by
  induction n with
  | zero => exact mul0 c
  | succ n ih => rw [S, S, muld, ih]
theorem S_mul' (n : Nat) (c : K) (f : Nat → K) : S n f * c = S n (fun i => f i * c) := by
  rw [mulc, S_mul]; exact S_congr fun i _ => mulc _ _
theorem S_comm (n m : Nat) (f : Nat → Nat → K) : S n (fun i => S m (fun j => f i j)) = S m (fun j => S n (fun i => f i j)) := by
  induction n with
  | zero => exact (S_zero m).symm
  | succ n ih => rw [S, ih, ← S_add]; rfl
theorem S_single (n k : Nat) (hk : k < n) (f : Nat → K) : S n (fun i => if i = k then f i else 0) = f k := by
  induction n with
  | zero => omega
  | succ n ih =>
    rw [S]
    by_cases h : k = n
    · subst h
      rw [if_pos rfl, S_congr (g := fun _ => 0) (fun i hi => if_neg (by omega)), S_zero, zadd]
    · rw [ih (by omega), if_neg (by omega), add0]
theorem S_only (n k : Nat) (hk : k < n) (f : Nat → K) (h : ∀ i, i < n → i ≠ k → f i = 0) : S n f = f k := by
  rw [← S_single n k hk f]
  exact S_congr fun i hi => by
    by_cases e : i = k
    · rw [if_pos e]
    · rw [if_neg e]; exact h i hi e

/-- The one. -/
def one (i j : Nat) : K := if i = j then 1 else 0
/-- A product of rows. -/
def mm (k : Nat) (a b : Nat → Nat → K) (i j : Nat) : K := S k (fun t => a i t * b t j)
theorem mm_assoc (k m : Nat) (a b c : Nat → Nat → K) (i j : Nat) : mm m (mm k a b) c i j = mm k a (mm m b c) i j := by
  unfold mm
  rw [S_congr (g := fun t => S k (fun s => a i s * b s t * c t j)) (fun t _ => S_mul' k _ _), S_comm]
  exact S_congr fun s _ => by rw [S_mul]; exact S_congr fun t _ => mula _ _ _
theorem mm_congr {k : Nat} {a a' b b' : Nat → Nat → K} {i j : Nat} (ha : ∀ t, t < k → a i t = a' i t) (hb : ∀ t, t < k → b t j = b' t j) : mm k a b i j = mm k a' b' i j :=
  S_congr fun t ht => by rw [ha t ht, hb t ht]
theorem one_mm (n : Nat) (a : Nat → Nat → K) (i j : Nat) (hi : i < n) : mm n one a i j = a i j := by
  unfold mm
  rw [S_only n i hi _ (fun t _ ht => by unfold one; rw [if_neg (fun e => ht e.symm), zmul])]
  unfold one; rw [if_pos rfl, onem]
theorem mm_one (n : Nat) (a : Nat → Nat → K) (i j : Nat) (hj : j < n) : mm n a one i j = a i j := by
  unfold mm
  rw [S_only n j hj _ (fun t _ ht => by unfold one; rw [if_neg ht, mul0])]
  unfold one; rw [if_pos rfl, mul1]

/-! ### What can be made of rows -/
def Span (n : Nat) (W : Nat → Nat → K) (r : Nat → K) : Prop := ∃ c : Nat → K, ∀ j, r j = S n (fun t => c t * W t j)
section
variable {n : Nat} {W V U : Nat → Nat → K} {r s : Nat → K}
theorem span_row {i : Nat} (hi : i < n) : Span n W (W i) := ⟨one i, fun j => (one_mm n W i j hi).symm⟩
theorem span_add (h : Span n W r) (k : Span n W s) : Span n W (fun j => r j + s j) := by
  obtain ⟨c, hc⟩ := h; obtain ⟨d, hd⟩ := k
  exact ⟨fun t => c t + d t, fun j => by show r j + s j = _; rw [hc j, hd j, ← S_add]; exact S_congr fun t _ => (dmul _ _ _).symm⟩
theorem span_smul (x : K) (h : Span n W r) : Span n W (fun j => x * r j) := by
  obtain ⟨c, hc⟩ := h
  exact ⟨fun t => x * c t, fun j => by show x * r j = _; rw [hc j, S_mul]; exact S_congr fun t _ => (mula _ _ _).symm⟩
theorem span_zero : Span n W (fun _ => 0) := ⟨fun _ => 0, fun j => by rw [S_congr (g := fun _ => 0) (fun t _ => zmul _), S_zero]⟩
theorem span_trans (h : ∀ i, i < n → Span n V (W i)) (k : Span n W r) : Span n V r := by
  obtain ⟨c, hc⟩ := k
  have aux : ∀ m, m ≤ n → Span n V (fun j => S m (fun t => c t * W t j)) := by
    intro m
    induction m with
    | zero => intro _; exact span_zero
    | succ m ih => intro hm; exact span_add (ih (by omega)) (span_smul (c m) (h m (by omega)))
  have := aux n (Nat.le_refl n)
  have e : r = fun j => S n (fun t => c t * W t j) := funext hc
  rw [e]; exact this
theorem span_eq (h : Span n W r) (e : ∀ j, s j = r j) : Span n W s := by
  have : s = r := funext e
  rw [this]; exact h
/-- Each row of one is made of the rows of the other. -/
def RE (n : Nat) (W V : Nat → Nat → K) : Prop := (∀ i, i < n → Span n W (V i)) ∧ (∀ i, i < n → Span n V (W i))
theorem RE.refl : RE n W W := ⟨fun _ => span_row, fun _ => span_row⟩
theorem RE.trans (h : RE n W V) (k : RE n V U) : RE n W U :=
  ⟨fun i hi => span_trans h.1 (k.1 i hi), fun i hi => span_trans k.2 (h.2 i hi)⟩
/-- Two rows, exchanged. -/
def sw (p q i : Nat) : Nat := if i = p then q else if i = q then p else i
theorem sw_lt {p q i : Nat} (hp : p < n) (hq : q < n) (hi : i < n) : sw p q i < n := by
  unfold sw; split
  · exact hq
  · split
    · exact hp
    · exact hi
theorem sw_sw (p q i : Nat) : sw p q (sw p q i) = i := by
  unfold sw
  by_cases h1 : i = p
  · subst h1; rw [if_pos rfl]
    by_cases h2 : q = i
    · subst h2; rw [if_pos rfl]
    · rw [if_neg h2, if_pos rfl]
  · rw [if_neg h1]
    by_cases h2 : i = q
    · subst h2; rw [if_pos rfl, if_pos rfl]
    · rw [if_neg h2, if_neg h1, if_neg h2]
theorem sw_inj {p q i j : Nat} (h : sw p q i = sw p q j) : i = j := by
  have := congrArg (sw p q) h
  rwa [sw_sw, sw_sw] at this
theorem re_swap {p q : Nat} (hp : p < n) (hq : q < n) : RE n W (fun i => W (sw p q i)) :=
  ⟨fun _ hi => span_row (sw_lt hp hq hi), fun i hi => by
    have := span_row (W := fun i => W (sw p q i)) (sw_lt hp hq hi)
    simp only [sw_sw] at this; exact this⟩
/-- A row times x. -/
def scl (W : Nat → Nat → K) (c : Nat) (x : K) (i j : Nat) : K := if i = c then x * W i j else W i j
theorem re_scale {c : Nat} {x y : K} (hc : c < n) (h : y * x = 1) : RE n W (scl W c x) := by
  refine ⟨fun i hi => ?_, fun i hi => ?_⟩
  · by_cases e : i = c
    · subst e; exact span_eq (span_smul x (span_row hi)) fun j => if_pos rfl
    · exact span_eq (span_row hi) fun j => if_neg e
  · by_cases e : i = c
    · subst e
      refine span_eq (span_smul y (span_row (W := scl W i x) hi)) fun j => ?_
      show _ = y * (if i = i then x * W i j else W i j)
      rw [if_pos rfl, ← mula, h, onem]
    · refine span_eq (span_row (W := scl W c x) hi) fun j => ?_
      show _ = (if i = c then x * W i j else W i j)
      rw [if_neg e]
/-- Row c, x times, added to row k. -/
def adr (W : Nat → Nat → K) (c k : Nat) (x : K) (i j : Nat) : K := if i = k then W i j + x * W c j else W i j
theorem re_add {c k : Nat} {x : K} (hc : c < n) (h : k ≠ c) : RE n W (adr W c k x) := by
  refine ⟨fun i hi => ?_, fun i hi => ?_⟩
  · by_cases e : i = k
    · subst e; exact span_eq (span_add (span_row hi) (span_smul x (span_row hc))) fun j => if_pos rfl
    · exact span_eq (span_row hi) fun j => if_neg e
  · have ec : adr W c k x c = W c := funext fun j => if_neg (fun e => h e.symm)
    have hs : Span n (adr W c k x) (W c) := by
      have := span_row (W := adr W c k x) hc
      rwa [ec] at this
    by_cases e : i = k
    · subst e
      refine span_eq (span_add (span_row (W := adr W c i x) hi) (span_smul x hs)) fun j => ?_
      show _ = (if i = i then W i j + x * W c j else W i j) + x * W c j
      rw [if_pos rfl, adda, add2, add0]
    · refine span_eq (span_row (W := adr W c k x) hi) fun j => ?_
      show _ = (if i = k then W i j + x * W c j else W i j)
      rw [if_neg e]
/-- What the rows send to nothing. -/
def Ker (n : Nat) (W : Nat → Nat → K) (v : Nat → K) : Prop := ∀ i, i < n → S n (fun j => W i j * v j) = 0
theorem span_ker {v : Nat → K} (h : Span n W r) (k : Ker n W v) : S n (fun j => r j * v j) = 0 := by
  obtain ⟨c, hc⟩ := h
  have e1 : S n (fun j => r j * v j) = S n (fun j => S n (fun t => c t * W t j * v j)) := S_congr fun j _ => by rw [hc j, S_mul']
  rw [e1, S_comm, S_congr (g := fun _ => 0) (fun t ht => ?_), S_zero]
  have e2 : S n (fun j => c t * W t j * v j) = c t * S n (fun j => W t j * v j) := by rw [S_mul]; exact S_congr fun j _ => mula _ _ _
  rw [e2, k t ht, mul0]
theorem RE.ker {v : Nat → K} (h : RE n W V) (k : Ker n V v) : Ker n W v := fun i hi => span_ker (h.2 i hi) k
theorem RE.ker' {v : Nat → K} (h : RE n W V) (k : Ker n W v) : Ker n V v := fun i hi => span_ker (h.1 i hi) k
end
/-- Rows that hang on each other. -/
def Sing (n : Nat) (A : Nat → Nat → K) : Prop := ∃ v : Nat → K, (∃ c, c < n ∧ v c ≠ 0) ∧ Ker n A v
/-- B undoes A, from both sides. -/
def Inv (n : Nat) (A B : Nat → Nat → K) : Prop := ∀ i, i < n → ∀ j, j < n → mm n A B i j = one i j ∧ mm n B A i j = one i j
theorem Inv.symm {n : Nat} {A B : Nat → Nat → K} (h : Inv n A B) : Inv n B A := fun i hi j hj => ⟨(h i hi j hj).2, (h i hi j hj).1⟩
theorem Inv.not_sing {n : Nat} {A B : Nat → Nat → K} (h : Inv n A B) : ¬ Sing n A := by
  rintro ⟨v, ⟨c, hc, hv⟩, hk⟩
  refine hv ?_
  have e := mm_assoc n n B A (fun i _ => v i) c 0
  have e1 : mm n (mm n B A) (fun i _ => v i) c 0 = v c := by
    rw [mm_congr (a' := one) (b' := fun i _ => v i) (fun t ht => (h c hc t ht).2) (fun _ _ => rfl)]
    exact one_mm n (fun i _ => v i) c 0 hc
  have e2 : mm n B (mm n A (fun i _ => v i)) c 0 = 0 := by
    unfold mm
    rw [S_congr (g := fun _ => 0) (fun t ht => by rw [hk t ht, mul0]), S_zero]
  rw [← e1, e, e2]
theorem Inv.unique {n : Nat} {A B C : Nat → Nat → K} (h : Inv n A B) (k : Inv n B C) (i j : Nat) (hi : i < n) (hj : j < n) : A i j = C i j := by
  have e := mm_assoc n n A B C i j
  have e1 : mm n (mm n A B) C i j = C i j := by
    rw [mm_congr (a' := one) (b' := C) (fun t ht => (h i hi t ht).1) (fun _ _ => rfl)]
    exact one_mm n C i j hi
  have e2 : mm n A (mm n B C) i j = A i j := by
    rw [mm_congr (a' := A) (b' := one) (fun _ _ => rfl) (fun t ht => (k t ht j hj).1)]
    exact mm_one n A i j hj
  rw [← e2, ← e, e1]
theorem Inv.congr {n : Nat} {A A' B B' : Nat → Nat → K} (h : Inv n A B) (ha : ∀ i, i < n → ∀ j, j < n → A' i j = A i j) (hb : ∀ i, i < n → ∀ j, j < n → B' i j = B i j) : Inv n A' B' := fun i hi j hj =>
  ⟨by rw [mm_congr (a' := A) (b' := B) (fun t ht => ha i hi t ht) (fun t ht => hb t ht j hj)]; exact (h i hi j hj).1,
   by rw [mm_congr (a' := B) (b' := A) (fun t ht => hb i hi t ht) (fun t ht => ha t ht j hj)]; exact (h i hi j hj).2⟩
theorem inv_one (n : Nat) : Inv n one one := fun i hi j _ => ⟨one_mm n one i j hi, one_mm n one i j hi⟩
/-- Rows, with the one behind them. -/
def wide (n : Nat) (A : Nat → Nat → K) (i j : Nat) : K := if j < n then A i j else if j = n + i then 1 else 0
theorem wide_inv {n : Nat} {A W : Nat → Nat → K} (h : RE n (wide n A) W) (hd : ∀ i, i < n → ∀ j, j < n → W i j = one i j) : Inv n A (fun i j => W i (n + j)) := by
  have wl : ∀ i j, j < n → wide n A i j = A i j := fun i j hj => if_pos hj
  have wr : ∀ i s, wide n A i (n + s) = one i s := fun i s => by
    unfold wide one; rw [if_neg (by omega)]
    by_cases e : i = s
    · rw [if_pos (by omega), if_pos e]
    · rw [if_neg (by omega), if_neg e]
  intro i hi j hj
  obtain ⟨c, hc⟩ := h.1 i hi
  obtain ⟨e, he⟩ := h.2 i hi
  have c1 : ∀ s, s < n → W i (n + s) = c s := fun s hs => by
    rw [hc (n + s), S_congr (g := fun t => c t * one t s) (fun t _ => by rw [wr])]
    exact mm_one n (fun _ t => c t) 0 s hs
  have e1 : ∀ s, s < n → A i s = e s := fun s hs => by
    rw [← wl i s hs, he s, S_congr (g := fun t => e t * one t s) (fun t ht => by rw [hd t ht s hs])]
    exact mm_one n (fun _ t => e t) 0 s hs
  constructor
  · rw [← wr i j, he (n + j)]
    exact S_congr fun t ht => by rw [e1 t ht]
  · rw [← hd i hi j hj, hc j]
    exact S_congr fun t ht => by show W i (n + t) * A t j = _; rw [c1 t ht, wl t j hj]
theorem wide_ker {n : Nat} {A : Nat → Nat → K} {v : Nat → K} (h : Ker n (wide n A) v) : Ker n A v := fun i hi => by
  rw [← h i hi]; exact S_congr fun j hj => by rw [show wide n A i j = A i j from if_pos hj]

/-! ### Rows that are cleared below -/
theorem S_upd (n k : Nat) (hk : k < n) (w v : Nat → K) (u : K) : S n (fun j => w j * (if j = k then v j + u else v j)) = S n (fun j => w j * v j) + w k * u := by
  rw [S_congr (g := fun j => w j * v j + (if j = k then w j * u else 0)) (fun j _ => ?_), S_add, S_single n k hk (fun j => w j * u)]
  by_cases e : j = k
  · rw [if_pos e, if_pos e, muld]
  · rw [if_neg e, if_neg e, add0]
theorem sing_of {n c : Nat} (hc : c < n) {W : Nat → Nat → K} (h1 : ∀ j, j < c → W j j ≠ 0) (h2 : ∀ j, j < c → ∀ i, j < i → i < n → W i j = 0) (h3 : ∀ i, c ≤ i → i < n → W i c = 0) :
    ∃ v : Nat → K, v c = 1 ∧ Ker n W v := by
  have aux : ∀ d, d ≤ c → ∃ v : Nat → K, v c = 1 ∧ ∀ i, c - d ≤ i → i < n → S n (fun j => W i j * v j) = 0 := by
    intro d
    induction d with
    | zero =>
      intro _
      refine ⟨fun j => one j c, if_pos rfl, fun i hi hn => ?_⟩
      have := mm_one n W i c hc
      rw [show S n (fun j => W i j * one j c) = W i c from this]
      exact h3 i (by omega) hn
    | succ d ih =>
      intro hd
      obtain ⟨v, hv, hr⟩ := ih (by omega)
      have hk : c - (d + 1) < c := by omega
      generalize hke : c - (d + 1) = k at hk
      refine ⟨fun j => if j = k then v j + kd (S n (fun j => W k j * v j)) (W k k) else v j, ?_, fun i hi hn => ?_⟩
      · show (if c = k then _ else v c) = 1
        rw [if_neg (by omega)]; exact hv
      · show S n (fun j => W i j * (if j = k then v j + _ else v j)) = 0
        rw [S_upd n k (by omega)]
        by_cases e : i = k
        · subst e; rw [mulc (W i i), kd_mul _ _ (h1 i hk), add2]
        · rw [hr i (by omega) hn, h2 k hk i (by omega) hn, zmul, add0]
  obtain ⟨v, hv, hr⟩ := aux c (Nat.le_refl c)
  exact ⟨v, hv, fun i hi => hr i (by omega) hi⟩
theorem not_sing_of {n : Nat} {W : Nat → Nat → K} (h1 : ∀ j, j < n → W j j ≠ 0) (h2 : ∀ j, j < n → ∀ i, j < i → i < n → W i j = 0) : ¬ Sing n W := by
  rintro ⟨v, ⟨c, hc, hv⟩, hk⟩
  have aux : ∀ d, d ≤ n → ∀ j, n - d ≤ j → j < n → v j = 0 := by
    intro d
    induction d with
    | zero => intro _ j h1 h2; omega
    | succ d ih =>
      intro hd j hj hn
      by_cases e : n - d ≤ j
      · exact ih (by omega) j e hn
      · have := hk j hn
        rw [S_only n j hn _ (fun t ht hne => ?_)] at this
        · exact nozero this (h1 j hn)
        · by_cases hlt : t < j
          · rw [h2 t ht j hlt hn, zmul]
          · rw [ih (by omega) t (by omega) ht, mul0]
  exact hv (aux n (Nat.le_refl n) c (by omega) hc)

/-! ### Powers -/
def kp (x : K) : Nat → K
  | 0 => 1
  | n + 1 => x * kp x n
/-- The value of the sum of powers of x. -/
def pv (n : Nat) (v : Nat → K) (x : K) : K := S n (fun j => kp x j * v j)
theorem horner (n : Nat) (r : K) : ∀ v : Nat → K, ∃ h : Nat → K, h n = 0 ∧ ∀ j, j < n → v j = h j + r * h (j + 1) := by
  induction n with
  | zero => intro v; exact ⟨fun _ => 0, rfl, fun j hj => by omega⟩
  | succ n ih =>
    intro v
    obtain ⟨h, h0, hs⟩ := ih (fun j => v (j + 1))
    refine ⟨fun j => match j with | 0 => v 0 + r * h 0 | j + 1 => h j, h0, fun j hj => ?_⟩
    cases j with
    | zero => show v 0 = v 0 + r * h 0 + r * h 0; rw [adda, add2, add0]
    | succ j => exact hs j (by omega)
theorem S_left (n : Nat) (f : Nat → K) : S (n + 1) f = f 0 + S n (fun j => f (j + 1)) := by
  induction n with
  | zero => show 0 + f 0 = f 0 + 0; rw [add0, zadd]
  | succ n ih => rw [S, ih, adda]; rfl
/-- Divided by x + r. -/
theorem pv_div (n : Nat) (v h : Nat → K) (r : K) (h0 : h (n + 1) = 0) (hs : ∀ j, j < n + 1 → v j = h j + r * h (j + 1)) (x : K) :
    pv (n + 1) v x = h 0 + (x + r) * pv n (fun j => h (j + 1)) x := by
  have e1 : pv (n + 1) v x = S (n + 1) (fun j => kp x j * h j) + S (n + 1) (fun j => r * (kp x j * h (j + 1))) := by
    rw [← S_add]
    exact S_congr fun j hj => by rw [hs j hj, muld]; congr 1; ac_rfl
  have e2 : S (n + 1) (fun j => kp x j * h j) = h 0 + x * pv n (fun j => h (j + 1)) x := by
    rw [S_left]; congr 1
    · exact onem _
    · unfold pv; rw [S_mul]; exact S_congr fun j _ => mula _ _ _
  have e3 : S (n + 1) (fun j => r * (kp x j * h (j + 1))) = r * pv n (fun j => h (j + 1)) x := by
    rw [← S_mul, S, h0, mul0, add0]; rfl
  rw [e1, e2, e3, dmul, adda]
theorem roots (n : Nat) : ∀ (v : Nat → K) (x : Nat → K), (∀ i, i < n → ∀ j, j < n → x i = x j → i = j) → (∀ i, i < n → pv n v (x i) = 0) → ∀ j, j < n → v j = 0 := by
  induction n with
  | zero => intro v x _ _ j hj; omega
  | succ n ih =>
    intro v x hx hv j hj
    obtain ⟨h, h0, hs⟩ := horner (n + 1) (x n) v
    have hd := pv_div n v h (x n) h0 hs
    have hz : h 0 = 0 := by
      have := hd (x n)
      rw [hv n (by omega), add2, zmul, add0] at this
      exact this.symm
    have hq : ∀ i, i < n → pv n (fun j => h (j + 1)) (x i) = 0 := fun i hi => by
      have e := hd (x i)
      rw [hv i (by omega), hz, zadd] at e
      refine nozero e.symm fun e0 => ?_
      exact absurd (hx i (by omega) n (by omega) (add_eq0 e0)) (by omega)
    have hh := ih (fun j => h (j + 1)) x (fun i hi j hj e => hx i (by omega) j (by omega) e) hq
    have hall : ∀ j, j ≤ n + 1 → h j = 0 := fun j hj => by
      cases j with
      | zero => exact hz
      | succ j =>
        by_cases e : j = n
        · subst e; exact h0
        · exact hh j (by omega)
    rw [hs j hj, hall j (by omega), hall (j + 1) (by omega), mul0, add0]
/-- Rows of powers of unlike bytes do not hang on each other. -/
theorem powers_not_sing (n : Nat) (x : Nat → K) (hx : ∀ i, i < n → ∀ j, j < n → x i = x j → i = j) : ¬ Sing n (fun i j => kp (x i) j) := by
  rintro ⟨v, ⟨c, hc, hv⟩, hk⟩
  exact hv (roots n v x hx hk c hc)
theorem kp_gp (x : K) (j : Nat) : (kp x j).n = gp x.n (j : Int) := by
  induction j with
  | zero => rfl
  | succ j ih =>
    show gm x.n (kp x j).n = _
    rw [ih]
    by_cases h : x.n = 0
    · rw [h, gm_zero]; unfold gp; rw [if_neg (by omega), if_pos rfl]
    · have e1 : gp x.n 1 = x.n := by rw [gp_ex x.n 1 h, Int.mul_one, ex_lg x.n x.h h]
      have := gp_add x.n 1 (j : Int) h
      rw [e1] at this
      rw [this]; congr 1; omega
theorem Sing.congr {n : Nat} {A B : Nat → Nat → K} (h : Sing n A) (e : ∀ i, i < n → ∀ j, j < n → A i j = B i j) : Sing n B := by
  obtain ⟨v, hv, hk⟩ := h
  exact ⟨v, hv, fun i hi => by rw [← hk i hi]; exact S_congr fun j hj => by rw [e i hi j hj]⟩
end Go.Proofs.Ytkgfkchdbbeljaa.Mx
