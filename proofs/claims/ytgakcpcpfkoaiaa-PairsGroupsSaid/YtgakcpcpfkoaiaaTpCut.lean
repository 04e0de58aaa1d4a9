/-
  What tape's cutNum and cutCount answer.
-/
import Derived.Test.YtgakcpcpfkoaiaaTpMath
import Derived.Test.YtgakcpcpfkoaiaaOvJump
namespace Go.Proofs.Ytgakcpcpfkoaiaa.Tp
open Go.ChangeShapes Go.WideShapes Go.ChangeAt Go.RowKit Go.Proofs.Ytgakcpcpfkoaiaa.Ov

def JC (s : ByteArray) (w : World) (a' : Act) (w' : World) : Prop := ∃ (i n : Nat) (u7 u8 u9 u10 u11 u12 u13 u14 u15 u16 u17 u18 u19 u20 u21 u22 u23 u24 u25 u26 u27 u28 u29 u30 u31 u32 u33 u34 u35 u36 u37 u38 u39 u40 u41 u42 u43 u44 u45 u46 u47 u48 : Value),
  i < 8 ∧ i ≤ s.size ∧ n < 2 ^ (7 * i) ∧ cn 0 0 s.data.toList = cn i n (s.data.toList.drop i) ∧ w' = w ∧
  a' = { tmps := #[.string s, undef, .int .i64 0, .string ⟨#[]⟩, .int .i64 0, .int .i64 (n : Int), .int .i64 (i : Int), u7, u8, u9, u10, u11, u12, u13, u14, u15, u16, u17, u18, u19, u20, u21, u22, u23, u24, u25, u26, u27, u28, u29, u30, u31, u32, u33, u34, u35, u36, u37, u38, u39, u40, u41, u42, u43, u44, u45, u46, u47, u48], defers := [] }
def muC (a : Act) (_ : World) : Nat := 8 - (intOf (a.tmps.getD 6 undef)).toNat
def cv (r : Nat × List UInt8 × Nat) : Value := .tuple #[.int .i64 (r.1 : Int), .string (tx r.2.1), .int .i64 (r.2.2 : Int)]
theorem cn_step {s : ByteArray} {i n m : Nat} {b : UInt8} (h : i < s.size) (hb : s[i] = b) (hm : m = n + b.toNat % 128 * 2 ^ (7 * i)) :
    cn i n (s.data.toList.drop i) = if 128 ≤ b.toNat ∧ i + 1 < 8 then cn (i + 1) m (s.data.toList.drop (i + 1))
      else if 128 ≤ b.toNat ∨ (b.toNat = 0 ∧ 1 < i + 1) ∨ 9007199254740991 < m then (0, [], 6) else (m, s.data.toList.drop (i + 1), 0) := by
  have hl : i < s.data.toList.length := by simpa using h
  rw [List.drop_eq_getElem_cons hl, hm, ← hb]
  rfl
theorem bound_step {i n m k : Nat} (hk : k < 128) (hn : n < 2 ^ (7 * i)) (hm : m = n + k * 2 ^ (7 * i)) : m < 2 ^ (7 * (i + 1)) := by
  have e : 2 ^ (7 * (i + 1)) = 128 * 2 ^ (7 * i) := by rw [show 7 * (i + 1) = 7 + 7 * i by omega, Nat.pow_add]
  have h1 : k * 2 ^ (7 * i) ≤ 127 * 2 ^ (7 * i) := Nat.mul_le_mul_right _ (by omega)
  rw [hm, e]; omega
theorem pow_le {i : Nat} (hi : i < 8) : 2 ^ (7 * (i + 1)) ≤ 72057594037927936 := by
  have : 2 ^ (7 * (i + 1)) ≤ 2 ^ 56 := Nat.pow_le_pow_right (by omega) (by omega)
  omega
theorem ok_ret (s : ByteArray) (i m : Nat) : Ending.returned (.tuple #[.int .i64 (m : Int), .string (s.extract (i + 1) s.size), .int .i64 0]) = .returned (cv (m, s.data.toList.drop (i + 1), 0)) := by
  rw [ext_drop]; rfl
set_option maxRecDepth 100000 in
set_option maxHeartbeats 1000000 in
theorem cutNum_any (s : ByteArray) (w : World) (hs : s.size ≤ 281474976710656) :
    Calls Try.prog 58 #[.string s] w fun e w' => e = .returned (cv (cn 0 0 s.data.toList)) ∧ Below w.heap.size w w' := by
  go_enter Try.func58, Try.ntmps58
  go_wp2
  refine wp_scope_once 0 (JC s w) muC rfl (fun NX => ?_) ?_
  · go_wp2_with (fail)
    go_step3
    rename_i hK
    exact hK _ _ (NX.out _ _ ⟨0, 0, _, _, _, _, _, _, _, _, _, _, _, _, _, _, _, _, _, _, _, _, _, _, _, _, _, _, _, _, _, _, _, _, _, _, _, _, _, _, _, _, _, _, by omega, by omega, by simp, by simp, rfl, rfl⟩)
  · rintro a' w' ⟨i, n, u7, u8, u9, u10, u11, u12, u13, u14, u15, u16, u17, u18, u19, u20, u21, u22, u23, u24, u25, u26, u27, u28, u29, u30, u31, u32, u33, u34, u35, u36, u37, u38, u39, u40, u41, u42, u43, u44, u45, u46, u47, u48, hi, hsz, hn, hc, rfl, rfl⟩
    have HC := Lib.hid hc; clear hc
    by_cases he : i = s.size
    · have h0 : ((i : Int) == (s.size : Int)) = true := by rw [beq_iff_eq]; omega
      have HE : Hid (cn 0 0 s.data.toList = (0, [], 2)) := by
        show _ = _
        rw [HC.out, List.drop_of_length_le (by simp; omega)]; rfl
      clear he
      go_wp2_with (fail)
      simp only [Exit.jump]
      go_ret3
      exact ⟨by rw [HE.out]; rfl, Below.refl _ _⟩
    have hlt : i < s.size := by omega
    clear he
    have h0 : ((i : Int) == (s.size : Int)) = false := by rw [beq_eq_false_iff_ne]; omega
    obtain ⟨b, hbb⟩ : ∃ b : UInt8, s[i] = b := ⟨_, rfl⟩
    obtain ⟨m, hm⟩ : ∃ m : Nat, m = n + b.toNat % 128 * 2 ^ (7 * i) := ⟨_, rfl⟩
    have HS := Lib.hid (cn_step hlt hbb hm)
    have hb := b.toNat_lt
    have hml := bound_step (by omega) hn hm
    have HML := Lib.hid hml
    have hm0 : m ≤ 72057594037927936 := Nat.le_trans (Nat.le_of_lt hml) (pow_le hi)
    have hw : wrap64 ((n : Int) + wrap64 ((b.toNat : Int) % 128 * 2 ^ (7 * i))) = (m : Int) := by
      have e : ((b.toNat : Int) % 128 * 2 ^ (7 * i)) = ((b.toNat % 128 * 2 ^ (7 * i) : Nat) : Int) := by simp
      rw [e]
      generalize b.toNat % 128 * 2 ^ (7 * i) = q at *
      rw [IntWalk.wrap64_in (q : Int) (by omega), IntWalk.wrap64_in _ (by omega)]
      omega
    clear hn hml hm
    by_cases h1 : 128 ≤ b.toNat
    · by_cases h2 : i + 1 < 8
      · have HE : Hid (cn 0 0 s.data.toList = cn (i + 1) m (s.data.toList.drop (i + 1))) := by
          show _ = _
          rw [HC.out, HS.out, if_pos ⟨h1, h2⟩]
        go_wp2_with (fail)
        go_step3
        refine ⟨rfl, ⟨i + 1, m, _, _, _, _, _, _, _, _, _, _, _, _, _, _, _, _, _, _, _, _, _, _, _, _, _, _, _, _, _, _, _, _, _, _, _, _, _, _, _, _, _, _, h2, hlt, HML.out, HE.out, rfl, rfl⟩, ?_⟩
        simp [muC, intOf]; omega
      · have HE : Hid (cn 0 0 s.data.toList = (0, [], 6)) := by
          show _ = _
          rw [HC.out, HS.out, if_neg (by omega), if_pos (Or.inl h1)]
        go_wp2_with (fail)
        simp only [Exit.jump]
        go_ret3
        exact ⟨by rw [HE.out]; rfl, Below.refl _ _⟩
    · by_cases h3 : b.toNat = 0 ∧ 1 < i + 1
      · have HE : Hid (cn 0 0 s.data.toList = (0, [], 6)) := by
          show _ = _
          rw [HC.out, HS.out, if_neg (by omega), if_pos (Or.inr (Or.inl h3))]
        have h4 : ((b.toNat : Int) == 0) = true := by rw [beq_iff_eq]; omega
        have h5 : (1 : Int) < (i : Int) + 1 := by omega
        clear h3
        go_wp2_with (fail)
        simp only [Exit.jump]
        go_ret3
        exact ⟨by rw [HE.out]; rfl, Below.refl _ _⟩
      · by_cases h6 : 9007199254740991 < m
        · have HE : Hid (cn 0 0 s.data.toList = (0, [], 6)) := by
            show _ = _
            rw [HC.out, HS.out, if_neg (by omega), if_pos (Or.inr (Or.inr h6))]
          go_wp2_with (fail)
          all_goals
            simp only [Exit.jump]
            go_ret3
            exact ⟨by rw [HE.out]; rfl, Below.refl _ _⟩
        · have HE : Hid (cn 0 0 s.data.toList = (m, s.data.toList.drop (i + 1), 0)) := by
            show _ = _
            rw [HC.out, HS.out, if_neg (by omega), if_neg (by omega)]
          by_cases h7 : b.toNat = 0
          · have h4 : ((b.toNat : Int) == 0) = true := by rw [beq_iff_eq]; omega
            have h5 : ¬ (1 : Int) < (i : Int) + 1 := by omega
            clear h3 h7
            go_wp2_with (fail)
            go_quiet (fail)
            go_wp2_with (fail)
            simp only [Exit.jump]
            go_ret3
            exact ⟨by rw [HE.out]; exact ok_ret s i m, below_drewN (Below.refl _ _) _⟩
          · have h4 : ((b.toNat : Int) == 0) = false := by rw [beq_eq_false_iff_ne]; omega
            clear h3 h7
            go_wp2_with (fail)
            go_quiet (fail)
            go_wp2_with (fail)
            simp only [Exit.jump]
            go_ret3
            exact ⟨by rw [HE.out]; exact ok_ret s i m, below_drewN (Below.refl _ _) _⟩
/-- The number of at most so many that bytes begin with. -/
def cc (most : Int) (l : List UInt8) : Nat × List UInt8 × Nat :=
  if (cn 0 0 l).2.2 = 0 then (if most < ((cn 0 0 l).1 : Int) then (0, [], 3) else cn 0 0 l) else cn 0 0 l
theorem cn_ends (i n : Nat) (l : List UInt8) : (cn i n l).2.2 ≤ 6 := by
  induction l generalizing i n with
  | nil => simp [cn]
  | cons b t ih =>
    rw [cn]
    by_cases h1 : 128 ≤ b.toNat ∧ i + 1 < 8
    · rw [if_pos h1]; exact ih _ _
    · rw [if_neg h1]
      by_cases h2 : 128 ≤ b.toNat ∨ (b.toNat = 0 ∧ 1 < i + 1) ∨ 9007199254740991 < n + b.toNat % 128 * 2 ^ (7 * i)
      · rw [if_pos h2]; exact Nat.le_refl _
      · rw [if_neg h2]; exact Nat.zero_le _
theorem cn_cases (l : List UInt8) : (∃ n t, cn 0 0 l = (n, t, 0) ∧ t.length < l.length ∧ n ≤ 9007199254740991) ∨ (∃ k, cn 0 0 l = (0, [], k) ∧ 0 < k ∧ k ≤ 6) := by
  by_cases h : (cn 0 0 l).2.2 = 0
  · obtain ⟨h1, h2⟩ := cn_ok 0 0 l h
    exact Or.inl ⟨_, _, Prod.ext rfl (Prod.ext rfl h), h1, h2⟩
  · obtain ⟨h1, h2⟩ := cn_err 0 0 l h
    exact Or.inr ⟨(cn 0 0 l).2.2, Prod.ext h1 (Prod.ext h2 rfl), by omega, cn_ends 0 0 l⟩
theorem cutNum_ok {s : ByteArray} {n : Nat} {t : List UInt8} (h : cn 0 0 s.data.toList = (n, t, 0)) (w : World) (hs : s.size ≤ 281474976710656) :
    Calls Try.prog 58 #[.string s] w fun e w' => e = .returned (.tuple #[.int .i64 (n : Int), .string (tx t), .int .i64 0]) ∧ Below w.heap.size w w' := by
  have := cutNum_any s w hs; rw [h] at this; exact this
theorem cutNum_no {s : ByteArray} {k : Nat} (h : cn 0 0 s.data.toList = (0, [], k)) (w : World) (hs : s.size ≤ 281474976710656) :
    Calls Try.prog 58 #[.string s] w fun e w' => e = .returned (.tuple #[.int .i64 0, .string ⟨#[]⟩, .int .i64 (k : Int)]) ∧ Below w.heap.size w w' := by
  have := cutNum_any s w hs; rw [h] at this; exact this
theorem cc_no {l : List UInt8} {k : Nat} (most : Int) (h : cn 0 0 l = (0, [], k)) (hk : 0 < k) : cc most l = (0, [], k) := by
  unfold cc; rw [h]; exact if_neg (Nat.ne_of_gt hk)
theorem cc_large {l : List UInt8} {n : Nat} {t : List UInt8} {most : Int} (h : cn 0 0 l = (n, t, 0)) (hm : most < n) : cc most l = (0, [], 3) := by
  unfold cc; rw [h, if_pos rfl, if_pos hm]
theorem cc_ok {l : List UInt8} {n : Nat} {t : List UInt8} {most : Int} (h : cn 0 0 l = (n, t, 0)) (hm : ¬ most < n) : cc most l = (n, t, 0) := by
  unfold cc; rw [h, if_pos rfl, if_neg hm]
set_option maxHeartbeats 1000000 in
theorem cutCount_any (s : ByteArray) (most : Int) (w : World) (hs : s.size ≤ 281474976710656) :
    Calls Try.prog 43 #[.string s, .int .i64 most] w fun e w' => e = .returned (cv (cc most s.data.toList)) ∧ Below w.heap.size w w' := by
  rcases cn_cases s.data.toList with ⟨n, t, h, hl, hn⟩ | ⟨k, h, hk, hk'⟩
  · have H := Lib.hid h; clear h hl
    by_cases hm : most < n
    · have HE := Lib.hid (cc_large H.out hm)
      go_enter Try.func43, Try.ntmps43
      go_wp2_with (fail)
      refine (cutNum_ok H.out _ hs).mono ?_
      rintro e w1 ⟨rfl, hb⟩
      have HB := Lib.hid hb; clear hb
      go_wp2_with (fail)
      go_ret3
      exact ⟨by rw [HE.out]; rfl, HB.out⟩
    · have HE := Lib.hid (cc_ok H.out hm)
      go_enter Try.func43, Try.ntmps43
      go_wp2_with (fail)
      refine (cutNum_ok H.out _ hs).mono ?_
      rintro e w1 ⟨rfl, hb⟩
      have HB := Lib.hid hb; clear hb
      go_wp2_with (fail)
      go_ret3
      exact ⟨by rw [HE.out]; rfl, HB.out⟩
  · have H := Lib.hid h; clear h
    have HE := Lib.hid (cc_no most H.out hk)
    have h0 : ((k : Int) != 0) = true := by rw [bne_iff_ne]; omega
    go_enter Try.func43, Try.ntmps43
    go_wp2_with (fail)
    refine (cutNum_no H.out _ hs).mono ?_
    rintro e w1 ⟨rfl, hb⟩
    have HB := Lib.hid hb; clear hb
    go_wp2_with (fail)
    go_ret3
    exact ⟨by rw [HE.out]; rfl, HB.out⟩
theorem cc_cases (most : Int) (l : List UInt8) : (∃ n t, cc most l = (n, t, 0) ∧ t.length < l.length ∧ n ≤ 9007199254740991 ∧ (n : Int) ≤ most) ∨ (∃ k, cc most l = (0, [], k) ∧ 0 < k ∧ k ≤ 6) := by
  rcases cn_cases l with ⟨n, t, h, hl, hn⟩ | ⟨k, h, hk, hk'⟩
  · by_cases hm : most < n
    · exact Or.inr ⟨3, cc_large h hm, by omega, by omega⟩
    · exact Or.inl ⟨n, t, cc_ok h hm, hl, hn, by omega⟩
  · exact Or.inr ⟨k, cc_no most h hk, hk, hk'⟩
theorem cutCount_ok {s : ByteArray} {most : Int} {n : Nat} {t : List UInt8} (h : cc most s.data.toList = (n, t, 0)) (w : World) (hs : s.size ≤ 281474976710656) :
    Calls Try.prog 43 #[.string s, .int .i64 most] w fun e w' => e = .returned (.tuple #[.int .i64 (n : Int), .string (tx t), .int .i64 0]) ∧ Below w.heap.size w w' := by
  have := cutCount_any s most w hs; rw [h] at this; exact this
theorem cutCount_no {s : ByteArray} {most : Int} {k : Nat} (h : cc most s.data.toList = (0, [], k)) (w : World) (hs : s.size ≤ 281474976710656) :
    Calls Try.prog 43 #[.string s, .int .i64 most] w fun e w' => e = .returned (.tuple #[.int .i64 0, .string ⟨#[]⟩, .int .i64 (k : Int)]) ∧ Below w.heap.size w w' := by
  have := cutCount_any s most w hs; rw [h] at this; exact this
end Go.Proofs.Ytgakcpcpfkoaiaa.Tp
