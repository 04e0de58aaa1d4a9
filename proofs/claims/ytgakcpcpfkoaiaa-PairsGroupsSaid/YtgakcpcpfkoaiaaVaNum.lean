/-
  Numbers and points as they are written, in plain mathematics: what cutWhole and cutNumbers answer.
-/
import Derived.Test.YtgakcpcpfkoaiaaVaDig
namespace Go.Proofs.Ytgakcpcpfkoaiaa.Va
open Go.Proofs.Ytgakcpcpfkoaiaa.Ov Go.Proofs.Ytgakcpcpfkoaiaa.Tp Go.Proofs.Ytgakcpcpfkoaiaa.Ga

/-- The number that a text begins with, perhaps one below 0. -/
def cw (l : List UInt8) : Int × Nat × Nat :=
  if l.head? = some 45 then
    (if (cd l.tail).2.2 ≠ 0 then (0, 0, (cd l.tail).2.2) else if (cd l.tail).1 = 0 then (0, 0, 6) else (-((cd l.tail).1 : Int), (cd l.tail).2.1 + 1, 0))
  else (((cd l).1 : Int), (cd l).2.1, (cd l).2.2)
/-- As far as numbers are told apart. -/
def clamp (m : Int) : Int := max (-9007199254740993) (min m 9007199254740993)
theorem head_dec (m : Nat) : ∃ c t, Lib.decDigits m = c :: t ∧ dg c = true := by
  cases h : Lib.decDigits m with
  | nil => exact absurd h (dec_ne m)
  | cons c t => exact ⟨c, t, rfl, dec_all m c (by rw [h]; simp)⟩
theorem dg_ne {c : UInt8} (h : dg c = true) : c ≠ 45 ∧ c ≠ 58 ∧ c ≠ 34 := by
  have := of_decide_eq_true h
  refine ⟨?_, ?_, ?_⟩ <;> (rintro rfl; revert this; decide)
theorem cd_zero {l : List UInt8} {n z : Nat} (h : cd l = (n, z, 0)) : n ≤ 9007199254740993 ∧ z ≤ l.length := by
  obtain ⟨m, rfl, h1, rfl, _⟩ := cd_ok h
  refine ⟨by omega, ?_⟩
  have := congrArg List.length h1
  rw [List.length_append] at this; omega
theorem cw_itoa (m : Int) (r : List UInt8) (hr : noDigit r) : cw (Lib.itoa m ++ r) = (clamp m, (Lib.itoa m).length, 0) := by
  unfold Lib.itoa clamp
  by_cases h : m < 0
  · rw [if_pos h]
    have hc := cd_dec m.natAbs r hr
    unfold cw
    rw [List.cons_append, if_pos (show (45 :: (Lib.decDigits m.natAbs ++ r)).head? = some 45 from rfl), List.tail_cons, hc]
    rw [if_neg (by simp), if_neg (by show ¬ min m.natAbs 9007199254740993 = 0; omega)]
    refine Prod.ext ?_ rfl
    show -((min m.natAbs 9007199254740993 : Nat) : Int) = _
    omega
  · rw [if_neg h]
    have hc := cd_dec m.toNat r hr
    obtain ⟨c, t, e, hd⟩ := head_dec m.toNat
    have hh : (Lib.decDigits m.toNat ++ r).head? ≠ some 45 := by
      rw [e]; intro e2
      exact (dg_ne hd).1 (Option.some.inj e2)
    unfold cw
    rw [if_neg hh, hc]
    refine Prod.ext ?_ rfl
    show ((min m.toNat 9007199254740993 : Nat) : Int) = _
    omega
theorem cw_ok {l : List UInt8} {n : Int} {z : Nat} (h : cw l = (n, z, 0)) : ∃ m, n = clamp m ∧ l = Lib.itoa m ++ l.drop z ∧ z = (Lib.itoa m).length ∧ noDigit (l.drop z) := by
  unfold cw at h
  split at h
  · rename_i h0
    cases l with
    | nil => simp at h0
    | cons c t =>
      obtain rfl : c = 45 := Option.some.inj h0
      rw [List.tail_cons] at h
      split at h
      · rename_i h1
        simp only [Prod.mk.injEq] at h
        exact absurd h.2.2 h1
      · rename_i h1
        split at h
        · simp at h
        · rename_i h2
          simp only [Prod.mk.injEq] at h
          obtain ⟨rfl, rfl, _⟩ := h
          obtain ⟨m, e1, e2, e3, e4⟩ := cd_ok (l := t) (n := (cd t).1) (z := (cd t).2.1) (Prod.ext rfl (Prod.ext rfl (by simpa using h1)))
          have hm : 1 ≤ m := by omega
          refine ⟨-(m : Int), ?_, ?_, ?_, e4⟩
          · unfold clamp; omega
          · unfold Lib.itoa
            rw [if_pos (by omega), List.drop_succ_cons, show (-(m : Int)).natAbs = m by omega, List.cons_append, ← e2]
          · unfold Lib.itoa
            rw [if_pos (by omega), show (-(m : Int)).natAbs = m by omega, List.length_cons, ← e3]
  · simp only [Prod.mk.injEq] at h
    obtain ⟨rfl, rfl, h2⟩ := h
    obtain ⟨m, e1, e2, e3, e4⟩ := cd_ok (l := l) (n := (cd l).1) (z := (cd l).2.1) (Prod.ext rfl (Prod.ext rfl h2))
    refine ⟨(m : Int), ?_, ?_, ?_, e4⟩
    · unfold clamp; omega
    · unfold Lib.itoa; rw [if_neg (by omega)]; exact e2
    · unfold Lib.itoa; rw [if_neg (by omega)]; exact e3
theorem cw_cases (l : List UInt8) : (∃ n z, cw l = (n, z, 0) ∧ (-9007199254740993 ≤ n ∧ n ≤ 9007199254740993) ∧ z ≤ l.length) ∨ ∃ k, cw l = (0, 0, k) ∧ 0 < k ∧ k ≤ 24 := by
  by_cases h : (cw l).2.2 = 0
  · left
    have e : cw l = ((cw l).1, (cw l).2.1, 0) := Prod.ext rfl (Prod.ext rfl h)
    obtain ⟨m, e1, e2, e3, _⟩ := cw_ok e
    refine ⟨_, _, e, ?_, ?_⟩
    · rw [e1]; unfold clamp; omega
    · have := congrArg List.length e2
      rw [List.length_append] at this; omega
  · right
    unfold cw at h ⊢
    split at h
    · rename_i h0
      rw [if_pos h0]
      rcases cd_cases l.tail with ⟨n, z, e⟩ | ⟨k, e, hk, hk'⟩
      · rw [e] at h ⊢
        rw [if_neg (by simp)] at h ⊢
        split at h
        · rename_i h2
          rw [if_pos h2]; exact ⟨6, rfl, by omega, by omega⟩
        · exact absurd rfl h
      · rw [e]
        have hk2 : ((0, 0, k) : Nat × Nat × Nat).2.2 ≠ 0 := by show k ≠ 0; omega
        rw [if_pos hk2]; exact ⟨k, rfl, hk, hk'⟩
    · rename_i h0
      rw [if_neg h0]
      rcases cd_cases l with ⟨n, z, e⟩ | ⟨k, e, hk, hk'⟩
      · rw [e] at h; exact absurd rfl h
      · rw [e]; exact ⟨k, rfl, hk, hk'⟩
/-- Nothing. -/
def vz : Va := ⟨0, 0, [], 0, 0⟩
/-- The number or the point that a text begins with. -/
def cnum (l : List UInt8) : Va × Nat × Nat :=
  if (cw l).2.2 ≠ 0 then (vz, 0, (cw l).2.2)
  else if (l.drop (cw l).2.1).head? = some 58 then
    (if (cw (l.drop ((cw l).2.1 + 1))).2.2 ≠ 0 then (vz, 0, (cw (l.drop ((cw l).2.1 + 1))).2.2)
     else if rt ⟨2, 0, [], (cw l).1, (cw (l.drop ((cw l).2.1 + 1))).1⟩ = true then (⟨2, 0, [], (cw l).1, (cw (l.drop ((cw l).2.1 + 1))).1⟩, (cw l).2.1 + 1 + (cw (l.drop ((cw l).2.1 + 1))).2.1, 0)
     else (vz, 0, 14))
  else if rt ⟨0, (cw l).1, [], 0, 0⟩ = true then (⟨0, (cw l).1, [], 0, 0⟩, (cw l).2.1, 0) else (vz, 0, 14)
theorem clamp_in {m : Int} (h : -9007199254740992 ≤ clamp m ∧ clamp m ≤ 9007199254740992) : clamp m = m := by unfold clamp at *; omega
theorem clamp_of {m : Int} (h : -9007199254740992 ≤ m ∧ m ≤ 9007199254740992) : clamp m = m := by unfold clamp; omega
theorem rt_int_in {n x y : Int} {s : List UInt8} (h : rt ⟨0, n, s, x, y⟩ = true) : (-9007199254740992 ≤ n ∧ n ≤ 9007199254740992) ∧ s = [] ∧ x = 0 ∧ y = 0 := by
  rcases rt_yes h with ⟨_, h1, h2, h3, h4, h5⟩ | ⟨h, _⟩ | ⟨h, _⟩
  · exact ⟨⟨h1, h2⟩, h3, h4, h5⟩
  · change (0 : Int) = 1 at h; omega
  · change (0 : Int) = 2 at h; omega
theorem rt_point_in {n x y : Int} {s : List UInt8} (h : rt ⟨2, n, s, x, y⟩ = true) : ((-16777216 ≤ x ∧ x ≤ 16777216) ∧ (-16777216 ≤ y ∧ y ≤ 16777216)) ∧ s = [] ∧ n = 0 := by
  rcases rt_yes h with ⟨h, _⟩ | ⟨h, _⟩ | ⟨_, h1, h2, h3⟩
  · change (2 : Int) = 0 at h; omega
  · change (2 : Int) = 1 at h; omega
  · exact ⟨rb_xy h3, h2, h1⟩
theorem rt_text_in {n x y : Int} {s : List UInt8} (h : rt ⟨1, n, s, x, y⟩ = true) : s.length ≤ 4096 ∧ n = 0 ∧ x = 0 ∧ y = 0 := by
  rcases rt_yes h with ⟨h, _⟩ | ⟨_, h1, h2, h3, h4⟩ | ⟨h, _⟩
  · change (1 : Int) = 0 at h; omega
  · exact ⟨h2, h1, h3, h4⟩
  · change (1 : Int) = 2 at h; omega
theorem noDigit_colon (r : List UInt8) : noDigit (58 :: r) := by
  intro c hc
  obtain rfl : 58 = c := Option.some.inj hc
  decide
/-- What was written is read. -/
theorem cnum_int {n : Int} (h : -9007199254740992 ≤ n ∧ n ≤ 9007199254740992) {r : List UInt8} (hr : noDigit r) (hc : r.head? ≠ some 58) : cnum (Lib.itoa n ++ r) = (⟨0, n, [], 0, 0⟩, (Lib.itoa n).length, 0) := by
  unfold cnum
  rw [cw_itoa n r hr, clamp_of h, if_neg (by simp), List.drop_left, if_neg hc, if_pos]
  exact decide_eq_true (.inl ⟨rfl, h.1, h.2, rfl, rfl, rfl⟩)
theorem cnum_point {x y : Int} (h : (-16777216 ≤ x ∧ x ≤ 16777216) ∧ (-16777216 ≤ y ∧ y ≤ 16777216)) {r : List UInt8} (hr : noDigit r) : cnum ((Lib.itoa x ++ [58]) ++ Lib.itoa y ++ r) = (⟨2, 0, [], x, y⟩, ((Lib.itoa x ++ [58]) ++ Lib.itoa y).length, 0) := by
  have e : (Lib.itoa x ++ [58]) ++ Lib.itoa y ++ r = Lib.itoa x ++ (58 :: (Lib.itoa y ++ r)) := by simp
  have e2 : (Lib.itoa x ++ (58 :: (Lib.itoa y ++ r))).drop ((Lib.itoa x).length + 1) = Lib.itoa y ++ r := by
    rw [← List.drop_drop, List.drop_left]; rfl
  rw [e]
  unfold cnum
  rw [cw_itoa x _ (noDigit_colon _), if_neg (by simp), List.drop_left, if_pos (show (58 :: (Lib.itoa y ++ r)).head? = some 58 from rfl)]
  dsimp only
  rw [e2, cw_itoa y r hr, if_neg (by simp), clamp_of (by omega), clamp_of (by omega), if_pos]
  · simp; omega
  · exact decide_eq_true (.inr (.inr ⟨rfl, rfl, rfl, rb_of h⟩))
/-- What is read is what is written. -/
theorem cnum_ok {l : List UInt8} {v : Va} {z : Nat} (h : cnum l = (v, z, 0)) : rt v = true ∧ (v.k = 0 ∨ v.k = 2) ∧ l = wr v ++ l.drop z ∧ z = (wr v).length ∧ noDigit (l.drop z) ∧ (v.k = 0 → (l.drop z).head? ≠ some 58) := by
  unfold cnum at h
  split at h
  · rename_i h0
    simp only [Prod.mk.injEq] at h
    exact absurd h.2.2 h0
  rename_i h0
  obtain ⟨m, e1, e2, e3, e4⟩ := cw_ok (l := l) (n := (cw l).1) (z := (cw l).2.1) (Prod.ext rfl (Prod.ext rfl (by simpa using h0)))
  split at h
  · rename_i hc
    split at h
    · rename_i h1
      simp only [Prod.mk.injEq] at h
      exact absurd h.2.2 h1
    rename_i h1
    split at h
    · rename_i hr
      obtain ⟨m', f1, f2, f3, f4⟩ := cw_ok (l := l.drop ((cw l).2.1 + 1)) (n := (cw (l.drop ((cw l).2.1 + 1))).1) (z := (cw (l.drop ((cw l).2.1 + 1))).2.1) (Prod.ext rfl (Prod.ext rfl (by simpa using h1)))
      simp only [Prod.mk.injEq] at h
      obtain ⟨rfl, rfl, _⟩ := h
      have hin := (rt_point_in hr).1
      rw [e1] at hin
      rw [f1] at hin
      have g1 := clamp_in (m := m) (by omega)
      have g2 := clamp_in (m := m') (by omega)
      rw [g1] at e1; rw [g2] at f1
      rw [List.drop_drop] at f2 f4
      have ed : l.drop (cw l).2.1 = 58 :: l.drop ((cw l).2.1 + 1) := by
        cases hd : l.drop (cw l).2.1 with
        | nil => rw [hd] at hc; simp at hc
        | cons a t =>
          rw [hd] at hc
          obtain rfl : a = 58 := Option.some.inj hc
          rw [← List.drop_drop, hd]; rfl
      refine ⟨hr, .inr rfl, ?_, ?_, f4, fun h => absurd h (by show ¬ (2 : Int) = 0; decide)⟩
      · rw [wr_point, e1, f1]
        have : l = Lib.itoa m ++ (58 :: (Lib.itoa m' ++ l.drop ((cw l).2.1 + 1 + (cw (l.drop ((cw l).2.1 + 1))).2.1))) := by rw [← f2, ← ed, ← e2]
        refine this.trans ?_
        simp
      · rw [wr_point, e1, f1, f3, e3]; simp; omega
    · simp at h
  · rename_i hc
    split at h
    · rename_i hr
      simp only [Prod.mk.injEq] at h
      obtain ⟨rfl, rfl, _⟩ := h
      have hin := (rt_int_in hr).1
      rw [e1] at hin
      have g1 := clamp_in hin
      rw [g1] at e1
      exact ⟨hr, .inl rfl, by rw [wr_int, e1]; exact e2, by rw [wr_int, e1]; exact e3, e4, fun _ => hc⟩
    · simp at h
theorem cnum_cases (l : List UInt8) : (cnum l).2.2 = 0 ∨ ∃ k, cnum l = (vz, 0, k) ∧ 0 < k ∧ k ≤ 24 := by
  unfold cnum
  rcases cw_cases l with ⟨n, z, e, _, _⟩ | ⟨k, e, hk, hk'⟩
  · rw [e, if_neg (by simp)]
    split
    · rcases cw_cases (l.drop (z + 1)) with ⟨n', z', e', _, _⟩ | ⟨k, e', hk, hk'⟩
      · rw [e', if_neg (by simp)]
        split
        · exact .inl rfl
        · exact .inr ⟨14, rfl, by omega, by omega⟩
      · rw [e', if_pos (by show k ≠ 0; omega)]
        exact .inr ⟨k, rfl, hk, hk'⟩
    · split
      · exact .inl rfl
      · exact .inr ⟨14, rfl, by omega, by omega⟩
  · rw [e, if_pos (by show k ≠ 0; omega)]
    exact .inr ⟨k, rfl, hk, hk'⟩
end Go.Proofs.Ytgakcpcpfkoaiaa.Va
