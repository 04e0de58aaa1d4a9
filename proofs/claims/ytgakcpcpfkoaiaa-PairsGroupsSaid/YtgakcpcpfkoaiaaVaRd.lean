/-
  Values read from a tape, in plain mathematics (written by gen_vard.py).
-/
import Derived.Test.YtgakcpcpfkoaiaaVaNum
import Derived.Test.YtgakcpcpfkoaiaaTpCut
namespace Go.Proofs.Ytgakcpcpfkoaiaa.Va
open Go.Proofs.Ytgakcpcpfkoaiaa.Ov Go.Proofs.Ytgakcpcpfkoaiaa.Tp Go.Proofs.Ytgakcpcpfkoaiaa.Ga

/-- What readNumber answers: a value, an error, what is left. -/
def rnum (t : List UInt8) : Va × Nat × List UInt8 :=
  if (cn 0 0 t).2.2 ≠ 0 then (vz, (cn 0 0 t).2.2, t)
  else if (cn 0 0 (cn 0 0 t).2.1).2.2 ≠ 0 then (vz, (cn 0 0 (cn 0 0 t).2.1).2.2, (cn 0 0 t).2.1)
  else if sg (cn 0 0 t).1 < -67108864 ∨ 67108864 < sg (cn 0 0 t).1 ∨ 134217728 ≤ (cn 0 0 (cn 0 0 t).2.1).1 then (vz, 6, (cn 0 0 (cn 0 0 t).2.1).2.1)
  else (⟨0, sg (cn 0 0 t).1 * 134217728 + ((cn 0 0 (cn 0 0 t).2.1).1 : Int), [], 0, 0⟩, 0, (cn 0 0 (cn 0 0 t).2.1).2.1)
def rpt (t : List UInt8) : Va × Nat × List UInt8 :=
  if (cn 0 0 t).2.2 ≠ 0 then (vz, (cn 0 0 t).2.2, t)
  else if (cn 0 0 (cn 0 0 t).2.1).2.2 ≠ 0 then (⟨2, 0, [], sg (cn 0 0 t).1, 0⟩, (cn 0 0 (cn 0 0 t).2.1).2.2, (cn 0 0 t).2.1)
  else (⟨2, 0, [], sg (cn 0 0 t).1, sg (cn 0 0 (cn 0 0 t).2.1).1⟩, 0, (cn 0 0 (cn 0 0 t).2.1).2.1)
def rtx (t : List UInt8) : Va × Nat × List UInt8 :=
  if (cc 4096 t).2.2 ≠ 0 then (⟨1, 0, [], 0, 0⟩, (cc 4096 t).2.2, t)
  else if (cc 4096 t).2.1.length < (cc 4096 t).1 then (⟨1, 0, [], 0, 0⟩, 2, t)
  else (⟨1, 0, (cc 4096 t).2.1.take (cc 4096 t).1, 0, 0⟩, 0, (cc 4096 t).2.1.drop (cc 4096 t).1)
def rval (l : List UInt8) : Va × Nat × List UInt8 :=
  if (cn 0 0 l).2.2 ≠ 0 then (vz, (cn 0 0 l).2.2, l) else if (cn 0 0 l).1 = 0 then rnum (cn 0 0 l).2.1 else if (cn 0 0 l).1 = 1 then rtx (cn 0 0 l).2.1 else if (cn 0 0 l).1 = 2 then rpt (cn 0 0 l).2.1 else (vz, 6, (cn 0 0 l).2.1)
/-- What Read answers. -/
def rd (l : List UInt8) : Va × Nat × List UInt8 :=
  if (rval l).2.1 ≠ 0 then (vz, (rval l).2.1, (rval l).2.2) else if rt (rval l).1 = true then rval l else (vz, 6, (rval l).2.2)
/-- What a number's bytes are read as is nothing else's. -/
theorem cn_back (l : List UInt8) : ∀ {i n m : Nat} {t : List UInt8}, cn i n l = (m, t, 0) → n < 2 ^ (7 * i) → ∃ x, m = n + x * 2 ^ (7 * i) ∧ l = nb x ++ t ∧ (x = 0 → i = 0) := by
  induction l with
  | nil => intro i n m t h; simp [cn] at h
  | cons b r ih =>
    intro i n m t h hn
    have hb := b.toNat_lt
    rw [cn] at h
    have e2 : 2 ^ (7 * (i + 1)) = 128 * 2 ^ (7 * i) := by rw [show 7 * (i + 1) = 7 + 7 * i by omega, Nat.pow_add]
    split at h
    · rename_i h1
      obtain ⟨x, e, e3, hx⟩ := ih h (by
        rw [e2]
        have : b.toNat % 128 * 2 ^ (7 * i) ≤ 127 * 2 ^ (7 * i) := Nat.mul_le_mul_right _ (by omega)
        omega)
      have hx0 : x ≠ 0 := fun h0 => by have := hx h0; omega
      refine ⟨b.toNat % 128 + 128 * x, ?_, ?_, fun h => by omega⟩
      · rw [e, e2, Nat.add_mul, ← Nat.mul_assoc, Nat.mul_comm x 128, Nat.add_assoc]
      · rw [nb_ge (by omega), show (b.toNat % 128 + 128 * x) % 128 + 128 = b.toNat by omega, show (b.toNat % 128 + 128 * x) / 128 = x by omega, e3]
        have : UInt8.ofNat b.toNat = b := UInt8.toNat_inj.1 (u8_nat hb)
        rw [this]; rfl
    · split at h
      · simp at h
      · rename_i h1 h2
        simp only [Prod.mk.injEq] at h
        obtain ⟨rfl, rfl, _⟩ := h
        refine ⟨b.toNat % 128, rfl, ?_, fun h0 => ?_⟩
        · rw [nb_lt (by omega), show b.toNat % 128 = b.toNat by omega]
          have : UInt8.ofNat b.toNat = b := UInt8.toNat_inj.1 (u8_nat hb)
          rw [this]; rfl
        · omega
theorem cn_own {l t : List UInt8} {m : Nat} (h : cn 0 0 l = (m, t, 0)) : l = nb m ++ t := by
  obtain ⟨x, e, e2, _⟩ := cn_back l h (by simp)
  have : m = x := by simpa using e
  rw [this]; exact e2
theorem wn_sg (m : Nat) : wn (sg m) = m := by
  unfold sg wn; split <;> split <;> omega
theorem rnum_vb {n : Int} (h : -9007199254740992 ≤ n ∧ n ≤ 9007199254740992) (t : List UInt8) : rnum (nb (wn (n / 134217728)) ++ (nb (n % 134217728).toNat ++ t)) = (⟨0, n, [], 0, 0⟩, 0, t) := by
  unfold rnum
  have h1 := cn_laid (wn (n / 134217728)) (nb (n % 134217728).toNat ++ t) (wn_le (by omega) (by omega))
  have h2 := cn_laid (n % 134217728).toNat t (by omega)
  rw [h1, if_neg (fun h => h rfl)]
  dsimp only
  rw [h2, if_neg (fun h => h rfl)]
  dsimp only
  rw [sg_wn, if_neg (by omega)]
  have e : n / 134217728 * 134217728 + (((n % 134217728).toNat : Nat) : Int) = n := by omega
  rw [e]
theorem rpt_vb {x y : Int} (h : (-16777216 ≤ x ∧ x ≤ 16777216) ∧ (-16777216 ≤ y ∧ y ≤ 16777216)) (t : List UInt8) : rpt (nb (wn x) ++ (nb (wn y) ++ t)) = (⟨2, 0, [], x, y⟩, 0, t) := by
  unfold rpt
  have h1 := cn_laid (wn x) (nb (wn y) ++ t) (wn_le (by omega) (by omega))
  have h2 := cn_laid (wn y) t (wn_le (by omega) (by omega))
  rw [h1, if_neg (fun h => h rfl)]
  dsimp only
  rw [h2, if_neg (fun h => h rfl), sg_wn, sg_wn]
theorem rtx_vb {s : List UInt8} (h : s.length ≤ 4096) (t : List UInt8) : rtx (nb s.length ++ (s ++ t)) = (⟨1, 0, s, 0, 0⟩, 0, t) := by
  unfold rtx
  have h1 : cc 4096 (nb s.length ++ (s ++ t)) = (s.length, s ++ t, 0) := cc_ok (cn_laid s.length (s ++ t) (by omega)) (by omega)
  rw [h1, if_neg (fun h => h rfl)]
  dsimp only
  rw [if_neg (by simp), List.take_left, List.drop_left]
/-- What was laid is read. -/
theorem rd_vb {v : Va} (h : rt v = true) (t : List UInt8) : rd (vb v ++ t) = (v, 0, t) := by
  have key : rval (vb v ++ t) = (v, 0, t) := by
    obtain ⟨k, n, s, x, y⟩ := v
    rcases rt_yes h with ⟨h0, h1, h2, h3, h4, h5⟩ | ⟨h0, h1, h2, h3, h4⟩ | ⟨h0, h1, h2, h3⟩
    · dsimp only at h0 h1 h2 h3 h4 h5
      subst h0; subst h3; subst h4; subst h5
      rw [vb_int, List.append_assoc, List.append_assoc]
      unfold rval
      rw [cn_laid 0 _ (by omega), if_neg (fun h => h rfl), if_pos rfl]
      exact rnum_vb ⟨h1, h2⟩ t
    · dsimp only at h0 h1 h2 h3 h4
      subst h0; subst h1; subst h3; subst h4
      rw [vb_text, List.append_assoc, List.append_assoc]
      unfold rval
      rw [cn_laid 1 _ (by omega), if_neg (fun h => h rfl), if_neg (show ¬ (1 : Nat) = 0 by decide), if_pos rfl]
      exact rtx_vb h2 t
    · dsimp only at h0 h1 h2 h3
      subst h0; subst h1; subst h2
      rw [vb_point, List.append_assoc, List.append_assoc]
      unfold rval
      rw [cn_laid 2 _ (by omega), if_neg (fun h => h rfl), if_neg (show ¬ (2 : Nat) = 0 by decide), if_neg (show ¬ (2 : Nat) = 1 by decide), if_pos rfl]
      exact rpt_vb (rb_xy h3) t
  unfold rd
  rw [key, if_neg (fun h => h rfl), if_pos h]
/-- What is read was laid so. -/
theorem rd_ok {l t : List UInt8} {v : Va} (h : rd l = (v, 0, t)) : rt v = true ∧ l = vb v ++ t := by
  unfold rd at h
  split at h
  · rename_i h1
    simp only [Prod.mk.injEq] at h
    exact absurd h.2.1 h1
  split at h
  · rename_i hr
    rw [h] at hr
    refine ⟨hr, ?_⟩
    change rt v = true at hr
    unfold rval at h
    split at h
    · rename_i h1
      simp only [Prod.mk.injEq] at h
      exact absurd h.2.1 h1
    rename_i h0
    have c0 := cn_own (l := l) (m := (cn 0 0 l).1) (t := (cn 0 0 l).2.1) (Prod.ext rfl (Prod.ext rfl (Decidable.not_not.1 h0)))
    generalize (cn 0 0 l).2.1 = l1 at *
    generalize (cn 0 0 l).1 = k at *
    clear h0
    split at h
    · rename_i hk
      subst hk
      unfold rnum at h
      split at h
      · rename_i h1
        simp only [Prod.mk.injEq] at h
        exact absurd h.2.1 h1
      rename_i h1
      have c1 := cn_own (l := l1) (m := (cn 0 0 l1).1) (t := (cn 0 0 l1).2.1) (Prod.ext rfl (Prod.ext rfl (Decidable.not_not.1 h1)))
      generalize (cn 0 0 l1).2.1 = l2 at *
      generalize (cn 0 0 l1).1 = m1 at *
      clear h1
      split at h
      · rename_i h1
        simp only [Prod.mk.injEq] at h
        exact absurd h.2.1 h1
      rename_i h2
      have c2 := cn_own (l := l2) (m := (cn 0 0 l2).1) (t := (cn 0 0 l2).2.1) (Prod.ext rfl (Prod.ext rfl (Decidable.not_not.1 h2)))
      generalize (cn 0 0 l2).2.1 = l3 at *
      generalize (cn 0 0 l2).1 = m2 at *
      clear h2
      split at h
      · simp at h
      rename_i h3
      simp only [Prod.mk.injEq] at h
      obtain ⟨rfl, _, rfl⟩ := h
      rw [vb_int, show (sg m1 * 134217728 + (m2 : Int)) / 134217728 = sg m1 by omega, wn_sg, show ((sg m1 * 134217728 + (m2 : Int)) % 134217728).toNat = m2 by omega, List.append_assoc, List.append_assoc, ← c2, ← c1]
      exact c0
    split at h
    · rename_i hk
      subst hk
      unfold rtx at h
      split at h
      · rename_i h1
        simp only [Prod.mk.injEq] at h
        exact absurd h.2.1 h1
      rename_i h1
      split at h
      · simp at h
      rename_i h2
      simp only [Prod.mk.injEq] at h
      obtain ⟨rfl, _, rfl⟩ := h
      have hc : cc 4096 l1 = ((cc 4096 l1).1, (cc 4096 l1).2.1, 0) := Prod.ext rfl (Prod.ext rfl (Decidable.not_not.1 h1))
      have hcn : cn 0 0 l1 = ((cc 4096 l1).1, (cc 4096 l1).2.1, 0) := by
        rcases cn_cases l1 with ⟨n, u, e, _, _⟩ | ⟨m, e, hm, _⟩
        · by_cases hlt : (4096 : Int) < (n : Int)
          · rw [cc_large e hlt] at hc; simp at hc
          · rw [cc_ok e hlt, e]
        · rw [cc_no 4096 e hm] at hc
          simp only [Prod.mk.injEq] at hc
          omega
      have c1 := cn_own hcn
      generalize (cc 4096 l1).2.1 = l2 at *
      generalize (cc 4096 l1).1 = m1 at *
      rw [vb_text, List.length_take, show min m1 l2.length = m1 by omega, List.append_assoc, List.append_assoc, List.take_append_drop, ← c1]
      exact c0
    split at h
    · rename_i hk
      subst hk
      unfold rpt at h
      split at h
      · rename_i h1
        simp only [Prod.mk.injEq] at h
        exact absurd h.2.1 h1
      rename_i h1
      have c1 := cn_own (l := l1) (m := (cn 0 0 l1).1) (t := (cn 0 0 l1).2.1) (Prod.ext rfl (Prod.ext rfl (Decidable.not_not.1 h1)))
      generalize (cn 0 0 l1).2.1 = l2 at *
      generalize (cn 0 0 l1).1 = m1 at *
      clear h1
      split at h
      · rename_i h1
        simp only [Prod.mk.injEq] at h
        exact absurd h.2.1 h1
      rename_i h2
      have c2 := cn_own (l := l2) (m := (cn 0 0 l2).1) (t := (cn 0 0 l2).2.1) (Prod.ext rfl (Prod.ext rfl (Decidable.not_not.1 h2)))
      generalize (cn 0 0 l2).2.1 = l3 at *
      generalize (cn 0 0 l2).1 = m2 at *
      clear h2
      simp only [Prod.mk.injEq] at h
      obtain ⟨rfl, _, rfl⟩ := h
      rw [vb_point, wn_sg, wn_sg, List.append_assoc, List.append_assoc, ← c2, ← c1]
      exact c0
    · simp at h
  · simp at h
end Go.Proofs.Ytgakcpcpfkoaiaa.Va
