/-
  Texts between quotes, in plain mathematics: what cutByte and cutText answer.
-/
import Derived.Test.YtpickeicchmhnaaDoorVaNum
import Derived.Lib.Bytealg
namespace Go.Proofs.YtpickeicchmhnaaDoor.Va
open Go.Proofs.YtpickeicchmhnaaDoor.Ov Go.Proofs.YtpickeicchmhnaaDoor.Tp Go.Proofs.YtpickeicchmhnaaDoor.Ga

def sixL : List UInt8 := [48, 49, 50, 51, 52, 53, 54, 55, 56, 57, 97, 98, 99, 100, 101, 102]
/-- What a digit of sixteen is worth; -1. -/
def sv (c : UInt8) : Int := Lib.indexByte sixL c
theorem sv_all : ∀ i : Fin 256, (sv (UInt8.ofNat i.val) = -1 ∨ (0 ≤ sv (UInt8.ofNat i.val) ∧ sv (UInt8.ofNat i.val) < 16 ∧ hx (sv (UInt8.ofNat i.val)).toNat = UInt8.ofNat i.val)) := by decide +kernel
theorem sv_hx : ∀ i : Fin 16, sv (hx i.val) = (i.val : Int) := by decide +kernel
theorem of_toNat (c : UInt8) : UInt8.ofNat c.toNat = c := UInt8.toNat_inj.1 (u8_nat c.toNat_lt)
theorem sv_cases (c : UInt8) : sv c = -1 ∨ ∃ n : Nat, n < 16 ∧ sv c = (n : Int) ∧ hx n = c := by
  have h := sv_all ⟨c.toNat, c.toNat_lt⟩
  simp only [of_toNat] at h
  rcases h with h | ⟨h1, h2, h3⟩
  · exact .inl h
  · exact .inr ⟨(sv c).toNat, by omega, by omega, h3⟩
theorem pl_ne {c : UInt8} (h : pl c = true) : c ≠ 34 ∧ c ≠ 92 := by
  refine ⟨?_, ?_⟩ <;> (rintro rfl; revert h; decide)
def cb3 (n : Nat) : List UInt8 → UInt8 × Nat × Nat
  | [] => (0, 0, 2)
  | b :: _ => if sv b < 0 then (0, 0, 6) else if pl (UInt8.ofNat (16 * n + (sv b).toNat)) = true then (0, 0, 6) else (UInt8.ofNat (16 * n + (sv b).toNat), 3, 0)
def cb2 : List UInt8 → UInt8 × Nat × Nat
  | [] => (0, 0, 2)
  | a :: u => if sv a < 0 then (0, 0, 6) else cb3 (sv a).toNat u
/-- The byte that a text in quotes begins with: it, how many bytes it takes, an error. -/
def cb : List UInt8 → UInt8 × Nat × Nat
  | [] => (0, 0, 2)
  | c :: t => if pl c = true then (c, 1, 0) else if c ≠ 92 then (0, 0, 6) else cb2 t
theorem cb_cons (c : UInt8) (t : List UInt8) : cb (c :: t) = if pl c = true then (c, 1, 0) else if c ≠ 92 then (0, 0, 6) else cb2 t := rfl
theorem cb2_cons (a : UInt8) (u : List UInt8) : cb2 (a :: u) = if sv a < 0 then (0, 0, 6) else cb3 (sv a).toNat u := rfl
theorem cb3_cons (n : Nat) (b : UInt8) (v : List UInt8) : cb3 n (b :: v) = if sv b < 0 then (0, 0, 6) else if pl (UInt8.ofNat (16 * n + (sv b).toNat)) = true then (0, 0, 6) else (UInt8.ofNat (16 * n + (sv b).toNat), 3, 0) := rfl
theorem cb_plain {c : UInt8} (t : List UInt8) (h : pl c = true) : cb (c :: t) = (c, 1, 0) := if_pos h
theorem cb_form {c : UInt8} (t : List UInt8) (h : pl c = false) (h2 : c ≠ 92) : cb (c :: t) = (0, 0, 6) := by rw [cb_cons, h, if_neg (by decide), if_pos h2]
theorem cb_esc (t : List UInt8) : cb (92 :: t) = cb2 t := by rw [cb_cons, if_neg (by decide), if_neg (fun h => h rfl)]
theorem cb_e1 (c : UInt8) (r : List UInt8) : cb (e1 c ++ r) = (c, (e1 c).length, 0) := by
  unfold e1
  by_cases h : pl c = true
  · rw [if_pos h]; exact cb_plain r h
  · rw [if_neg h]
    have hc := c.toNat_lt
    have h1 := sv_hx ⟨c.toNat / 16, by omega⟩
    have h2 := sv_hx ⟨c.toNat % 16, by omega⟩
    simp only at h1 h2
    have e : UInt8.ofNat (16 * (sv (hx (c.toNat / 16))).toNat + (sv (hx (c.toNat % 16))).toNat) = c := by
      rw [h1, h2, Int.toNat_natCast, Int.toNat_natCast, show 16 * (c.toNat / 16) + c.toNat % 16 = c.toNat by omega, of_toNat]
    show cb (92 :: hx (c.toNat / 16) :: hx (c.toNat % 16) :: r) = _
    rw [cb_esc, cb2_cons, if_neg (by omega), cb3_cons, if_neg (by omega), e, if_neg h]
    rfl
theorem cb_ok {l : List UInt8} {c : UInt8} {z : Nat} (h : cb l = (c, z, 0)) : l = e1 c ++ l.drop z ∧ z = (e1 c).length ∧ l ≠ [] ∧ l.head? ≠ some 34 := by
  cases l with
  | nil => simp [cb] at h
  | cons d t =>
    by_cases hp : pl d = true
    · rw [cb_plain t hp] at h
      simp only [Prod.mk.injEq] at h
      obtain ⟨rfl, rfl, _⟩ := h
      have e : e1 d = [d] := if_pos hp
      rw [e]
      exact ⟨rfl, rfl, by simp, fun h => (pl_ne hp).1 (Option.some.inj h)⟩
    · have hp' : pl d = false := by simpa using hp
      by_cases h92 : d = 92
      · subst h92
        rw [cb_esc] at h
        cases t with
        | nil => simp [cb2] at h
        | cons a u =>
          rw [cb2_cons] at h
          split at h
          · simp at h
          · rename_i ha
            cases u with
            | nil => simp [cb3] at h
            | cons b v =>
              rw [cb3_cons] at h
              split at h
              · simp at h
              · rename_i hb
                split at h
                · simp at h
                · rename_i hq
                  simp only [Prod.mk.injEq] at h
                  obtain ⟨hc, rfl, _⟩ := h
                  rcases sv_cases a with ea | ⟨n, hn, ea, en⟩
                  · omega
                  rcases sv_cases b with eb | ⟨m, hm, eb, em⟩
                  · omega
                  rw [ea, eb, Int.toNat_natCast, Int.toNat_natCast] at hc hq
                  rw [hc] at hq
                  have hct : c.toNat = 16 * n + m := by rw [← hc, u8_nat (by omega)]
                  have e : e1 c = [92, a, b] := by
                    unfold e1; rw [if_neg hq, show c.toNat / 16 = n by omega, show c.toNat % 16 = m by omega, en, em]
                  rw [e]
                  exact ⟨rfl, rfl, by simp, fun h => absurd (Option.some.inj h) (by decide)⟩
      · rw [cb_form t hp' h92] at h; simp at h
theorem cb_cases (l : List UInt8) : (∃ c z, cb l = (c, z, 0) ∧ 1 ≤ z ∧ z ≤ l.length) ∨ ∃ k, cb l = (0, 0, k) ∧ 0 < k ∧ k ≤ 24 := by
  cases l with
  | nil => exact .inr ⟨2, rfl, by omega, by omega⟩
  | cons c t =>
    rw [cb_cons]
    split
    · exact .inl ⟨_, _, rfl, by omega, by simp⟩
    split
    · exact .inr ⟨6, rfl, by omega, by omega⟩
    cases t with
    | nil => exact .inr ⟨2, rfl, by omega, by omega⟩
    | cons a u =>
      rw [cb2_cons]
      split
      · exact .inr ⟨6, rfl, by omega, by omega⟩
      cases u with
      | nil => exact .inr ⟨2, rfl, by omega, by omega⟩
      | cons b v =>
        rw [cb3_cons]
        split
        · exact .inr ⟨6, rfl, by omega, by omega⟩
        split
        · exact .inr ⟨6, rfl, by omega, by omega⟩
        · exact .inl ⟨_, _, rfl, by omega, by simp⟩
/-- What lies ahead of the quote that ends a text: the bytes, how many bytes they take with the quote, an error. -/
def ct : List UInt8 → List UInt8 × Nat × Nat
  | [] => ([], 0, 2)
  | c :: t => if c = 34 then ([], 1, 0) else if (cb (c :: t)).2.2 ≠ 0 then ([], 0, (cb (c :: t)).2.2) else
    if (ct (t.drop ((cb (c :: t)).2.1 - 1))).2.2 ≠ 0 then ([], 0, (ct (t.drop ((cb (c :: t)).2.1 - 1))).2.2)
    else ((cb (c :: t)).1 :: (ct (t.drop ((cb (c :: t)).2.1 - 1))).1, (cb (c :: t)).2.1 + (ct (t.drop ((cb (c :: t)).2.1 - 1))).2.1, 0)
termination_by l => l.length
decreasing_by all_goals (simp; omega)
/-- Bytes ahead of it. -/
def pre (a : List UInt8) (k : Nat) (r : List UInt8 × Nat × Nat) : List UInt8 × Nat × Nat := if r.2.2 ≠ 0 then ([], 0, r.2.2) else (a ++ r.1, k + r.2.1, 0)
theorem ct_nil : ct [] = ([], 0, 2) := by rw [ct]
theorem ct_quote (t : List UInt8) : ct (34 :: t) = ([], 1, 0) := by rw [ct, if_pos rfl]
theorem ct_bad {l : List UInt8} {k : Nat} (hn : l ≠ []) (hh : l.head? ≠ some 34) (h : cb l = (0, 0, k)) (hk : 0 < k) : ct l = ([], 0, k) := by
  cases l with
  | nil => exact absurd rfl hn
  | cons c t =>
    rw [ct, if_neg (fun e => hh (by rw [e]; rfl)), h]
    exact if_pos (by show k ≠ 0; omega)
theorem ct_step {l : List UInt8} {c : UInt8} {z : Nat} (hh : l.head? ≠ some 34) (h : cb l = (c, z, 0)) (hz : 1 ≤ z) : ct l = pre [c] z (ct (l.drop z)) := by
  cases l with
  | nil => simp [cb] at h
  | cons d t =>
    have e : (d :: t).drop z = t.drop (z - 1) := by
      obtain ⟨y, rfl⟩ : ∃ y, z = y + 1 := ⟨z - 1, by omega⟩
      rfl
    rw [ct, if_neg (fun e => hh (by rw [e]; rfl)), h, e]
    exact if_neg (fun h => h rfl)
theorem pre_pre (a b : List UInt8) (i j : Nat) (r : List UInt8 × Nat × Nat) : pre a i (pre b j r) = pre (a ++ b) (i + j) r := by
  unfold pre
  by_cases h : r.2.2 ≠ 0
  · rw [if_pos h, if_pos h, if_pos h]
  · rw [if_neg h, if_neg h, if_neg (fun h => h rfl)]
    simp [Nat.add_assoc]
theorem pre_nil {r : List UInt8 × Nat × Nat} (h : r.2.2 = 0 ∨ (r.1 = [] ∧ r.2.1 = 0)) : pre [] 0 r = r := by
  unfold pre
  by_cases h1 : r.2.2 ≠ 0
  · rw [if_pos h1]
    rcases h with h | ⟨h2, h3⟩
    · exact absurd h h1
    · exact Prod.ext h2.symm (Prod.ext h3.symm rfl)
  · rw [if_neg h1]
    exact Prod.ext (by simp) (Prod.ext (by simp) (by simpa using (Decidable.not_not.1 h1).symm))
theorem ct_norm (l : List UInt8) : (ct l).2.2 = 0 ∨ ((ct l).1 = [] ∧ (ct l).2.1 = 0) := by
  cases l with
  | nil => rw [ct_nil]; exact .inr ⟨rfl, rfl⟩
  | cons c t =>
    rw [ct]
    split
    · exact .inl rfl
    split
    · exact .inr ⟨rfl, rfl⟩
    split
    · exact .inr ⟨rfl, rfl⟩
    · exact .inl rfl
theorem ct_esc (s r : List UInt8) : ct (esc s ++ 34 :: r) = (s, (esc s).length + 1, 0) := by
  induction s with
  | nil => rw [esc_nil, List.nil_append, ct_quote]; rfl
  | cons c t ih =>
    rw [esc_cons, List.append_assoc]
    have h := cb_e1 c (esc t ++ 34 :: r)
    obtain ⟨_, h2, h3, h4⟩ := cb_ok h
    have hz : 1 ≤ (e1 c).length := by unfold e1; split <;> simp
    rw [ct_step h4 h hz, List.drop_left, ih]
    show (if (0 : Nat) ≠ 0 then _ else _) = _
    rw [if_neg (by omega)]
    simp [Nat.add_assoc]
theorem ct_ok (n : Nat) : ∀ {l s : List UInt8} {z : Nat}, l.length ≤ n → ct l = (s, z, 0) → l = esc s ++ 34 :: l.drop z ∧ z = (esc s).length + 1 := by
  induction n with
  | zero =>
    intro l s z hl h
    have : l = [] := List.eq_nil_of_length_eq_zero (by omega)
    subst this; rw [ct_nil] at h; simp at h
  | succ n ih =>
    intro l s z hl h
    cases l with
    | nil => rw [ct_nil] at h; simp at h
    | cons c t =>
      by_cases hq : c = 34
      · subst hq
        rw [ct_quote] at h
        simp only [Prod.mk.injEq] at h
        obtain ⟨rfl, rfl, _⟩ := h
        exact ⟨rfl, rfl⟩
      · have hh : (c :: t).head? ≠ some 34 := fun e => hq (Option.some.inj e)
        rcases cb_cases (c :: t) with ⟨d, y, e, hy, hy2⟩ | ⟨k, e, hk, _⟩
        · rw [ct_step hh e hy] at h
          unfold pre at h
          split at h
          · rename_i hr
            simp only [Prod.mk.injEq] at h
            exact absurd h.2.2 hr
          · rename_i hr
            simp only [Prod.mk.injEq] at h
            obtain ⟨rfl, rfl, _⟩ := h
            obtain ⟨e1', e2', _, _⟩ := cb_ok e
            have hl2 : ((c :: t).drop y).length ≤ n := by rw [List.length_drop]; omega
            obtain ⟨g1, g2⟩ := ih hl2 (Prod.ext rfl (Prod.ext rfl (Decidable.not_not.1 hr)))
            rw [List.drop_drop] at g1
            refine ⟨?_, ?_⟩
            · have : c :: t = e1 d ++ (esc (ct ((c :: t).drop y)).1 ++ 34 :: (c :: t).drop (y + (ct ((c :: t).drop y)).2.1)) := by rw [← g1, ← e1']
              refine this.trans ?_
              rw [List.singleton_append, esc_cons, List.append_assoc]
            · have g3 : (ct ((c :: t).drop y)).2.1 = (esc (ct ((c :: t).drop y)).1).length + 1 := g2
              rw [List.singleton_append, esc_cons, List.length_append, ← e2', g3, Nat.add_assoc]
        · rw [ct_bad (by simp) hh e hk] at h
          simp only [Prod.mk.injEq] at h
          omega
/-- The text in quotes that a text begins with. -/
def ctx (l : List UInt8) : Va × Nat × Nat :=
  if (ct l.tail).2.2 ≠ 0 then (vz, 0, (ct l.tail).2.2) else if 4096 < (ct l.tail).1.length then (vz, 0, 3) else (⟨1, 0, (ct l.tail).1, 0, 0⟩, (ct l.tail).2.1 + 1, 0)
theorem ctx_wr {s : List UInt8} (h : s.length ≤ 4096) (r : List UInt8) : ctx (34 :: (esc s ++ [34]) ++ r) = (⟨1, 0, s, 0, 0⟩, (34 :: (esc s ++ [34])).length, 0) := by
  have e : (34 :: (esc s ++ [34]) ++ r).tail = esc s ++ 34 :: r := by simp
  unfold ctx
  rw [e, ct_esc, if_neg (fun h => h rfl), if_neg (by show ¬ 4096 < s.length; omega)]
  simp
theorem ctx_ok {l : List UInt8} {v : Va} {z : Nat} (h : ctx l = (v, z, 0)) (hh : l.head? = some 34) : rt v = true ∧ v.k = 1 ∧ l = wr v ++ l.drop z ∧ z = (wr v).length := by
  cases l with
  | nil => simp at hh
  | cons c t =>
    obtain rfl : c = 34 := Option.some.inj hh
    unfold ctx at h
    rw [List.tail_cons] at h
    split at h
    · rename_i hr
      simp only [Prod.mk.injEq] at h
      exact absurd h.2.2 hr
    rename_i hr
    split at h
    · simp at h
    rename_i hl
    simp only [Prod.mk.injEq] at h
    obtain ⟨rfl, rfl, _⟩ := h
    obtain ⟨g1, g2⟩ := ct_ok t.length (Nat.le_refl _) (show ct t = ((ct t).1, (ct t).2.1, 0) from Prod.ext rfl (Prod.ext rfl (Decidable.not_not.1 hr)))
    refine ⟨decide_eq_true (.inr (.inl ⟨rfl, rfl, by show (ct t).1.length ≤ 4096; omega, rfl, rfl⟩)), rfl, ?_, ?_⟩
    · rw [wr_text, List.drop_succ_cons]
      have : 34 :: t = 34 :: (esc (ct t).1 ++ 34 :: t.drop (ct t).2.1) := by rw [← g1]
      refine this.trans ?_
      simp
    · rw [wr_text, g2]; simp
theorem ct_cases (l : List UInt8) : (ct l).2.2 ≤ 24 := by
  suffices H : ∀ n (l : List UInt8), l.length ≤ n → (ct l).2.2 ≤ 24 from H l.length l (Nat.le_refl _)
  intro n
  induction n with
  | zero =>
    intro l hl
    have : l = [] := List.eq_nil_of_length_eq_zero (by omega)
    subst this; rw [ct_nil]; decide
  | succ n ih =>
    intro l hl
    cases l with
    | nil => rw [ct_nil]; decide
    | cons c t =>
      rw [ct]
      split
      · exact Nat.zero_le _
      split
      · rcases cb_cases (c :: t) with ⟨d, y, e, _, _⟩ | ⟨k, e, _, hk⟩
        · rw [e]; exact Nat.zero_le _
        · rw [e]; exact hk
      split
      · exact ih _ (by rw [List.length_drop]; simp at hl; omega)
      · exact Nat.zero_le _
theorem ctx_cases (l : List UInt8) : (ctx l).2.2 = 0 ∨ ∃ k, ctx l = (vz, 0, k) ∧ 0 < k ∧ k ≤ 24 := by
  unfold ctx
  split
  · rename_i h; exact .inr ⟨_, rfl, Nat.pos_of_ne_zero h, ct_cases _⟩
  split
  · exact .inr ⟨3, rfl, by omega, by omega⟩
  · exact .inl rfl
/-- The value that a text begins with. -/
def pz (l : List UInt8) : Va × Nat × Nat :=
  if l.head? = some 34 then ctx l else if l.head? = some 45 ∨ (∃ c, l.head? = some c ∧ dg c = true) then cnum l else (vz, 0, 10)
end Go.Proofs.YtpickeicchmhnaaDoor.Va
