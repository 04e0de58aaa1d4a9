/-
  Digits, in plain mathematics: the number whose digits a text begins with.
-/
import Derived.Test.YtgakcpcpfkoaiaaVaMath
namespace Go.Proofs.Ytgakcpcpfkoaiaa.Va
open Go.Proofs.Ytgakcpcpfkoaiaa.Ov Go.Proofs.Ytgakcpcpfkoaiaa.Tp Go.Proofs.Ytgakcpcpfkoaiaa.Ga

/-- A digit of ten. -/
def dg (c : UInt8) : Bool := decide (48 ≤ c.toNat ∧ c.toNat ≤ 57)
/-- How many digits a text begins with. -/
def tw (l : List UInt8) : Nat := (l.takeWhile dg).length
/-- What digits are worth. -/
def dv (l : List UInt8) : Nat := l.foldl (fun a c => 10 * a + (c.toNat - 48)) 0
/-- The same, but no more than is told apart. -/
def sat (l : List UInt8) : Nat := l.foldl (fun a c => min (10 * a + (c.toNat - 48)) 9007199254740993) 0
theorem tw_cons (c : UInt8) (t : List UInt8) : tw (c :: t) = if dg c = true then tw t + 1 else 0 := by
  unfold tw; rw [List.takeWhile_cons]; split <;> simp
theorem tw_le (l : List UInt8) : tw l ≤ l.length := by
  induction l with
  | nil => simp [tw]
  | cons c t ih => rw [tw_cons]; split <;> simp <;> omega
theorem tw_yes {l : List UInt8} {k : Nat} (hk : k < l.length) (h : k ≤ tw l) (hd : dg l[k] = true) : k + 1 ≤ tw l := by
  induction l generalizing k with
  | nil => simp at hk
  | cons c t ih =>
    rw [tw_cons] at h ⊢
    cases k with
    | zero =>
      have hd' : dg c = true := hd
      rw [if_pos hd']; omega
    | succ k =>
      have hc : dg c = true := by
        rcases Bool.eq_false_or_eq_true (dg c) with e | e
        · exact e
        · rw [e] at h; simp at h
      rw [if_pos hc] at h ⊢
      have := ih (k := k) (by simpa using hk) (by omega) hd
      omega
theorem tw_no {l : List UInt8} {k : Nat} (hk : k < l.length) (h : k ≤ tw l) (hd : dg l[k] = false) : tw l = k := by
  induction l generalizing k with
  | nil => simp at hk
  | cons c t ih =>
    rw [tw_cons] at h ⊢
    cases k with
    | zero =>
      have hd' : dg c = false := hd
      rw [hd']; rfl
    | succ k =>
      have hc : dg c = true := by
        rcases Bool.eq_false_or_eq_true (dg c) with e | e
        · exact e
        · rw [e] at h; simp at h
      rw [if_pos hc] at h ⊢
      have := ih (k := k) (by simpa using hk) (by omega) hd
      omega
theorem sat_snoc (l : List UInt8) (c : UInt8) : sat (l ++ [c]) = min (10 * sat l + (c.toNat - 48)) 9007199254740993 := by
  unfold sat; rw [List.foldl_append]; rfl
theorem dv_snoc (l : List UInt8) (c : UInt8) : dv (l ++ [c]) = 10 * dv l + (c.toNat - 48) := by
  unfold dv; rw [List.foldl_append]; rfl
theorem snoc_ind {p : List UInt8 → Prop} (h0 : p []) (h1 : ∀ l c, p l → p (l ++ [c])) (l : List UInt8) : p l := by
  have key : ∀ r : List UInt8, p r.reverse := fun r => by
    induction r with
    | nil => exact h0
    | cons c t ih => rw [List.reverse_cons]; exact h1 _ _ ih
  have := key l.reverse
  rwa [List.reverse_reverse] at this
theorem sat_dv (l : List UInt8) : sat l = min (dv l) 9007199254740993 := by
  induction l using snoc_ind with
  | h0 => rfl
  | h1 l c ih => rw [sat_snoc, dv_snoc, ih]; omega
/-- The digits of a number. -/
theorem dec_small {m : Nat} (h : m < 10) : Lib.decDigits m = [UInt8.ofNat (48 + m)] := by rw [Lib.decDigits, dif_pos h]
theorem dec_big {m : Nat} (h : ¬ m < 10) : Lib.decDigits m = Lib.decDigits (m / 10) ++ [UInt8.ofNat (48 + m % 10)] := by rw [Lib.decDigits, dif_neg h]
theorem dec_ne (m : Nat) : Lib.decDigits m ≠ [] := by
  by_cases h : m < 10
  · rw [dec_small h]; simp
  · rw [dec_big h]; simp
theorem dec_all (m : Nat) : ∀ c ∈ Lib.decDigits m, dg c = true := by
  induction m using Nat.strongRecOn with
  | _ m ih =>
    have one : ∀ k, k < 10 → dg (UInt8.ofNat (48 + k)) = true := fun k hk => by
      unfold dg; rw [u8_nat (by omega)]; exact decide_eq_true (by omega)
    by_cases h : m < 10
    · rw [dec_small h]; intro c hc; rw [List.mem_singleton] at hc; subst hc; exact one m h
    · rw [dec_big h]; intro c hc
      rcases List.mem_append.1 hc with hc | hc
      · exact ih (m / 10) (by omega) c hc
      · rw [List.mem_singleton] at hc; subst hc; exact one _ (by omega)
theorem dec_dv (m : Nat) : dv (Lib.decDigits m) = m := by
  induction m using Nat.strongRecOn with
  | _ m ih =>
    by_cases h : m < 10
    · rw [dec_small h]
      show 10 * 0 + ((UInt8.ofNat (48 + m)).toNat - 48) = m
      rw [u8_nat (by omega)]; omega
    · rw [dec_big h, dv_snoc, ih (m / 10) (by omega), u8_nat (by omega)]; omega
/-- No nought ahead. -/
def bare (l : List UInt8) : Prop := 1 < l.length → l.head? ≠ some 48
theorem dec_bare (m : Nat) : bare (Lib.decDigits m) ∧ (1 ≤ m → (Lib.decDigits m).head? ≠ some 48) := by
  induction m using Nat.strongRecOn with
  | _ m ih =>
    by_cases h : m < 10
    · rw [dec_small h]
      refine ⟨fun h => by simp at h, fun h1 e => ?_⟩
      have e' : UInt8.ofNat (48 + m) = 48 := Option.some.inj e
      have := congrArg UInt8.toNat e'
      rw [u8_nat (by omega)] at this
      change 48 + m = 48 at this
      omega
    · have h2 := (ih (m / 10) (by omega)).2 (by omega)
      have e : (Lib.decDigits m).head? = (Lib.decDigits (m / 10)).head? := by
        rw [dec_big h]
        cases hd : Lib.decDigits (m / 10) with
        | nil => exact absurd hd (dec_ne _)
        | cons a t => rfl
      exact ⟨fun _ => by rw [e]; exact h2, fun _ => by rw [e]; exact h2⟩
theorem dv_foldl_pos (l : List UInt8) (a : Nat) (h : 1 ≤ a) : 1 ≤ l.foldl (fun a c => 10 * a + (c.toNat - 48)) a := by
  induction l generalizing a with
  | nil => exact h
  | cons c t ih => exact ih _ (by show 1 ≤ 10 * a + (c.toNat - 48); omega)
theorem dv_pos {l : List UInt8} (hn : l ≠ []) (ha : ∀ c ∈ l, dg c = true) (hh : l.head? ≠ some 48) : 1 ≤ dv l := by
  cases l with
  | nil => exact absurd rfl hn
  | cons c t =>
    have hc : 48 ≤ c.toNat ∧ c.toNat ≤ 57 := of_decide_eq_true (ha c (by simp))
    have hne : c.toNat ≠ 48 := fun e => hh (by
      have : c = 48 := UInt8.toNat_inj.1 e
      rw [this]; rfl)
    exact dv_foldl_pos t _ (by show 1 ≤ 10 * 0 + (c.toNat - 48); omega)
/-- Digits without a nought ahead are those of their number. -/
theorem dec_of (l : List UInt8) : l ≠ [] → (∀ c ∈ l, dg c = true) → bare l → Lib.decDigits (dv l) = l := by
  induction l using snoc_ind with
  | h0 => intro h; exact absurd rfl h
  | h1 l c ih =>
    intro _ ha hb
    have hc : 48 ≤ c.toNat ∧ c.toNat ≤ 57 := of_decide_eq_true (ha c (by simp))
    have ec : ∀ k, k = c.toNat - 48 → UInt8.ofNat (48 + k) = c := fun k hk => by
      have : 48 + k = c.toNat := by omega
      rw [this]; exact UInt8.toNat_inj.1 (u8_nat c.toNat_lt)
    rw [dv_snoc]
    by_cases hl : l = []
    · subst hl
      show Lib.decDigits (10 * 0 + (c.toNat - 48)) = [c]
      rw [dec_small (by omega), ec _ (by omega)]
    · have hh : l.head? ≠ some 48 := by
        intro e
        refine hb (by simp; exact List.length_pos_iff.2 hl) ?_
        cases l with
        | nil => exact absurd rfl hl
        | cons a t => exact e
      have hp := dv_pos hl (fun d hd => ha d (by simp [hd])) hh
      rw [dec_big (by omega), show (10 * dv l + (c.toNat - 48)) / 10 = dv l by omega, show (10 * dv l + (c.toNat - 48)) % 10 = c.toNat - 48 by omega, ih hl (fun d hd => ha d (by simp [hd])) (fun _ => hh), ec _ rfl]
/-- The number that a text begins with: it, how many digits it takes, an error. -/
def cd (l : List UInt8) : Nat × Nat × Nat :=
  if l = [] then (0, 0, 2) else if tw l = 0 ∨ (1 < tw l ∧ l.head? = some 48) then (0, 0, 6) else (sat (l.take (tw l)), tw l, 0)
theorem take_tw (l : List UInt8) : l.take (tw l) = l.takeWhile dg := by
  induction l with
  | nil => rfl
  | cons c t ih =>
    rw [tw_cons, List.takeWhile_cons]
    split
    · rw [List.take_succ_cons, ih]
    · rfl
theorem takeWhile_dg (l : List UInt8) : ∀ c ∈ l.takeWhile dg, dg c = true := by
  induction l with
  | nil => intro c hc; simp at hc
  | cons a t ih =>
    intro c hc
    rw [List.takeWhile_cons] at hc
    split at hc
    · rename_i h
      rcases List.mem_cons.1 hc with e | e
      · rw [e]; exact h
      · exact ih c e
    · simp at hc
/-- What doesn't go on with a digit. -/
def noDigit (r : List UInt8) : Prop := ∀ c, r.head? = some c → dg c = false
theorem tw_app {d r : List UInt8} (ha : ∀ c ∈ d, dg c = true) (hr : noDigit r) : tw (d ++ r) = d.length := by
  induction d with
  | nil => cases r with
    | nil => rfl
    | cons c t => rw [List.nil_append, tw_cons, hr c rfl]; rfl
  | cons c t ih =>
    rw [List.cons_append, tw_cons, if_pos (ha c (by simp)), ih (fun c hc => ha c (by simp [hc]))]; rfl
theorem tw_drop (l : List UInt8) : noDigit (l.drop (tw l)) := by
  induction l with
  | nil => intro c hc; simp at hc
  | cons a t ih =>
    rw [tw_cons]
    split
    · rw [List.drop_succ_cons]; exact ih
    · rename_i h
      intro c hc
      obtain rfl : a = c := by simpa using hc
      simpa using h
/-- The digits of a number are read. -/
theorem cd_dec (m : Nat) (r : List UInt8) (hr : noDigit r) : cd (Lib.decDigits m ++ r) = (min m 9007199254740993, (Lib.decDigits m).length, 0) := by
  have hne := dec_ne m
  have ht := tw_app (dec_all m) hr
  have hl := List.length_pos_iff.2 hne
  unfold cd
  rw [if_neg (by simp [hne]), ht, if_neg, List.take_left, sat_dv, dec_dv]
  rintro (h | ⟨h1, h2⟩)
  · omega
  · refine (dec_bare m).1 h1 ?_
    cases hd : Lib.decDigits m with
    | nil => exact absurd hd hne
    | cons a t => rw [hd] at h2; exact h2
/-- What is read are the digits of a number. -/
theorem cd_ok {l : List UInt8} {n z : Nat} (h : cd l = (n, z, 0)) : ∃ m, n = min m 9007199254740993 ∧ l = Lib.decDigits m ++ l.drop z ∧ z = (Lib.decDigits m).length ∧ noDigit (l.drop z) := by
  unfold cd at h
  split at h
  · simp at h
  · split at h
    · simp at h
    · rename_i h1 h2
      simp only [Prod.mk.injEq] at h
      obtain ⟨rfl, rfl, _⟩ := h
      have hz : tw l ≠ 0 := fun e => h2 (.inl e)
      have hd := dec_of (l.take (tw l)) (by
        intro e
        have := congrArg List.length e
        rw [List.length_take] at this
        have h6 := tw_le l
        change min (tw l) l.length = 0 at this
        omega) (by rw [take_tw]; exact takeWhile_dg l) (by
        intro h3 h4
        have h5 : 1 < tw l := by rw [List.length_take] at h3; omega
        refine h2 (.inr ⟨h5, ?_⟩)
        rw [List.head?_take] at h4
        rw [if_neg (by omega)] at h4; exact h4)
      refine ⟨dv (l.take (tw l)), sat_dv _, ?_, ?_, tw_drop l⟩
      · rw [hd, List.take_append_drop]
      · rw [hd, List.length_take]; have := tw_le l; omega
theorem cd_cases (l : List UInt8) : (∃ n z, cd l = (n, z, 0)) ∨ ∃ k, cd l = (0, 0, k) ∧ 0 < k ∧ k ≤ 24 := by
  unfold cd
  split
  · exact .inr ⟨2, rfl, by omega, by omega⟩
  · split
    · exact .inr ⟨6, rfl, by omega, by omega⟩
    · exact .inl ⟨_, _, rfl⟩
end Go.Proofs.Ytgakcpcpfkoaiaa.Va
