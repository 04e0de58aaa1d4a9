/-
  The document's own answers for layer 1 (package stookref01): Mul, Pow, Inv.
-/
import Derived.Test.YtnobpdgicglieaaGfN
namespace Go.Proofs.Ytnobpdgicglieaa.Gf
open Go.ChangeShapes Go.WideShapes Go.ChangeAt Go.RowKit

/-- The product, bit by bit: k bits are left. -/
def rm : Nat → Nat → Nat → Nat → Nat
  | 0, n, _, _ => n
  | k + 1, n, a, b => rm k (if b % 2 = 1 then n ^^^ a else n) (dbl a) (b / 2)
theorem gm_two (a : Nat) (ha : a < 256) : gm a 2 = dbl a := by
  rw [gm_comm, gm_dn 2 a (by omega) ha (by omega), show lg 2 = 1 from by decide +kernel]; rfl
theorem dbl_small : ∀ c, c < 128 → dbl c = 2 * c := by decide +kernel
theorem bit_split : ∀ b, b < 256 → b = (b % 2) ^^^ (2 * (b / 2)) := by decide +kernel
theorem gm_bit (a b : Nat) (ha : a < 256) (hb : b < 256) : gm a b = (if b % 2 = 1 then a else 0) ^^^ gm (dbl a) (b / 2) := by
  have hc : 2 * (b / 2) = gm 2 (b / 2) := by rw [gm_comm, gm_two _ (by omega), dbl_small _ (by omega)]
  have e := bit_split b hb
  have h1 : gm a b = gm a (b % 2) ^^^ gm a (2 * (b / 2)) := by
    rw [← gm_add a _ _ ha (by omega) (by omega), ← e]
  rw [h1, hc, gm_assoc, gm_two a ha]
  congr 1
  split
  · rename_i h; rw [h, gm_one a ha]
  · rw [show b % 2 = 0 from by omega, gm_zero']
theorem rm_gm (k : Nat) : ∀ n a b, a < 256 → b < 256 → b < 2 ^ k → rm k n a b = n ^^^ gm a b := by
  induction k with
  | zero => intro n a b _ _ h; obtain rfl : b = 0 := by omega
            rw [rm, gm_zero', Nat.xor_zero]
  | succ k ih =>
    intro n a b ha hb h
    rw [rm, ih _ _ _ (dbl_lt a ha) (by omega) (by rw [Nat.pow_succ] at h; omega), gm_bit a b ha hb, ← Nat.xor_assoc]
    congr 1
    split
    · rfl
    · rw [Nat.xor_zero]
theorem rm8 (a b : Nat) (ha : a < 256) (hb : b < 256) : rm 8 0 a b = gm a b := by
  rw [rm_gm 8 0 a b ha hb hb, Nat.zero_xor]

theorem rm_step (k n a b : Nat) (h : k < 8) : rm (8 - k) n a b = rm (8 - (k + 1)) (if b % 2 = 1 then n ^^^ a else n) (dbl a) (b / 2) := by
  rw [show 8 - k = (8 - (k + 1)) + 1 from by omega]; rfl
def RelM (R : Nat) (A B N I : Value) : Prop := ∃ k a b n : Nat, k ≤ 8 ∧ a < 256 ∧ b < 256 ∧ n < 256 ∧ A = .int .i64 (a : Int) ∧ B = .int .i64 (b : Int) ∧ N = .int .i64 (n : Int) ∧ I = .int .i64 (k : Int) ∧ rm (8 - k) n a b = R
theorem ret_i64 {a b : Int} (h : a = b) : Ending.returned (.int .i64 a) = .returned (.int .i64 b) := by rw [h]
set_option maxHeartbeats 1000000 in
theorem refmul_any (a b : Nat) (ha : a < 256) (hb : b < 256) (w : World) :
    Calls Try.prog 34 #[.int .i64 (a : Int), .int .i64 (b : Int)] w fun e w' => e = .returned (.int .i64 (gm a b : Nat)) ∧ w = w' := by
  have H := Lib.hid (rm8 a b ha hb)
  go_enter Try.func34, Try.ntmps34
  go_wp2
  go_loop [0, 1, 5, 6] (fun A B N I => RelM (gm a b) A B N I) (fun _ _ _ I => 8 - (intOf I).toNat)
  case atStart => exact ⟨0, a, b, 0, by omega, ha, hb, by omega, rfl, rfl, rfl, rfl, H.out⟩
  case round =>
    clear H ha hb
    obtain ⟨k, a', b', n', hk, ha, hb, hn, rfl, rfl, rfl, rfl, hr⟩ := hrel
    have HR := Lib.hid hr; clear hr
    by_cases hlt : k < 8
    · have HS := Lib.hid (rm_step k n' a' b' hlt)
      have hx := Lib.hid (i64_xor n' a' (by omega) (by omega))
      have hxl := xor_lt hn ha
      have hdl := dbl_lt a' ha
      by_cases h1 : b' % 2 = 1
      · have HS1 : Hid (rm (8 - k) n' a' b' = rm (8 - (k + 1)) (n' ^^^ a') (dbl a') (b' / 2)) := by have := HS.out; rwa [if_pos h1] at this
        have t1 : ((b' : Int) % 2 == 1) = true := by simp; omega
        clear HS h1
        by_cases h2 : 255 < (a' : Int) * 2
        · have HD := Lib.hid (dbl_hi a' (by omega) h2)
          go_wp2
          go_round
          case rel => exact ⟨k + 1, dbl a', b' / 2, n' ^^^ a', by omega, hdl, by omega, hxl, by rw [HD.out], by go_num, by rw [hx.out], by go_num, by rw [← HS1.out, HR.out]⟩
          case measure => simp [intOf]; omega
        · have HD := Lib.hid (dbl_lo a' (by omega))
          go_wp2
          go_round
          case rel => exact ⟨k + 1, dbl a', b' / 2, n' ^^^ a', by omega, hdl, by omega, hxl, by rw [HD.out], by go_num, by rw [hx.out], by go_num, by rw [← HS1.out, HR.out]⟩
          case measure => simp [intOf]; omega
      · have HS1 : Hid (rm (8 - k) n' a' b' = rm (8 - (k + 1)) n' (dbl a') (b' / 2)) := by have := HS.out; rwa [if_neg h1] at this
        have t1 : ((b' : Int) % 2 == 1) = false := by simp; omega
        clear HS h1
        by_cases h2 : 255 < (a' : Int) * 2
        · have HD := Lib.hid (dbl_hi a' (by omega) h2)
          go_wp2
          go_round
          case rel => exact ⟨k + 1, dbl a', b' / 2, n', by omega, hdl, by omega, hn, by rw [HD.out], by go_num, rfl, by go_num, by rw [← HS1.out, HR.out]⟩
          case measure => simp [intOf]; omega
        · have HD := Lib.hid (dbl_lo a' (by omega))
          go_wp2
          go_round
          case rel => exact ⟨k + 1, dbl a', b' / 2, n', by omega, hdl, by omega, hn, by rw [HD.out], by go_num, rfl, by go_num, by rw [← HS1.out, HR.out]⟩
          case measure => simp [intOf]; omega
    · obtain rfl : k = 8 := by omega
      have HE : Hid (n' = gm a b) := HR.out
      go_wp2
      go_ret
      exact ⟨ret_i64 (by rw [HE.out]), rfl⟩
theorem ex_step (u a : Nat) (ha : a < 256) (h : a ≠ 0) : gm (ex ((lg a : Int) * (u : Int))) a = ex ((lg a : Int) * ((u + 1 : Nat) : Int)) := by
  have e : gm (ex ((lg a : Int) * (u : Int))) a = gm (ex ((lg a : Int) * (u : Int))) (ex (lg a)) := by rw [ex_lg a ha h]
  rw [e, ex_add]; congr 1
def RelP (a n : Nat) (X I : Value) : Prop := ∃ k : Nat, k ≤ n ∧ X = .int .i64 (ex ((lg a : Int) * (k : Int)) : Nat) ∧ I = .int .i64 (k : Int)
set_option maxHeartbeats 1000000 in
theorem refpow_any (a n : Nat) (ha : a < 256) (h0 : a ≠ 0) (hn : n ≤ 254) (w : World) :
    Calls Try.prog 22 #[.int .i64 (a : Int), .int .i64 (n : Int)] w fun e w' => e = .returned (.int .i64 (ex ((lg a : Int) * (n : Int)) : Nat)) ∧ w = w' := by
  have HS := Lib.hid (fun u => ex_step u a ha h0)
  clear h0
  go_enter Try.func22, Try.ntmps22
  go_wp2
  go_loop [5, 6] (fun X I => RelP a n X I) (fun _ I => n - (intOf I).toNat)
  case atStart => exact ⟨0, by omega, by simp [ex, pw], rfl⟩
  case round =>
    obtain ⟨k, hk, rfl, rfl⟩ := hrel
    by_cases hlt : k < n
    · have HL := Lib.hid (ex_lt ((lg a : Int) * (k : Int)))
      generalize hx : ex ((lg a : Int) * (k : Int)) = x at *
      have HX := Lib.hid hx; clear hx
      go_wp2_with fail
      refine (refmul_any x a HL.out ha _).mono ?_
      rintro e w' ⟨rfl, rfl⟩
      go_wp2
      go_round
      case rel => exact ⟨k + 1, by omega, by rw [← HX.out, HS.out], by go_num⟩
      case measure => simp [intOf]; omega
    · obtain rfl : k = n := by omega
      go_wp2
      go_ret
      exact ⟨rfl, rfl⟩

/-- What makes 1 with a, or 0. -/
def IsInv (a r : Nat) : Prop := r < 256 ∧ (a = 0 → r = 0) ∧ (a ≠ 0 → gm a r = 1)
def SomeInv (a : Nat) (w : World) (e : Ending) (w' : World) : Prop := ∃ r : Nat, IsInv a r ∧ e = .returned (.int .i64 (r : Int)) ∧ w = w'
def RelI (a : Nat) (B : Value) : Prop := ∃ k : Nat, 1 ≤ k ∧ k ≤ 256 ∧ (∀ i, 1 ≤ i → i < k → gm a i ≠ 1) ∧ B = .int .i64 (k : Int)
set_option maxRecDepth 100000 in
set_option maxHeartbeats 1000000 in
theorem refinv_any (a : Nat) (ha : a < 256) (w : World) :
    Calls Try.prog 35 #[.int .i64 (a : Int)] w (SomeInv a w) := by
  go_enter Try.func35, Try.ntmps35
  go_wp2
  go_loop [3] (fun B => RelI a B) (fun B => 256 - (intOf B).toNat)
  case atStart => exact ⟨1, by omega, by omega, by omega, rfl⟩
  case round =>
    obtain ⟨k, hk1, hk, hno, rfl⟩ := hrel
    have HN := Lib.hid hno; clear hno
    by_cases hlt : k < 256
    · by_cases he : gm a k = 1
      · have HE : Hid (IsInv a k) := ⟨hlt, fun h => by subst h; rw [gm_zero] at he; omega, fun _ => he⟩
        have t' : (((gm a k : Nat) : Int) == 1) = true := by simp; omega
        have t : (gm a k == 1) = true := by simpa using he
        clear he
        go_wp2_with fail
        refine (refmul_any a k ha hlt _).mono ?_
        rintro e w' ⟨rfl, rfl⟩
        go_wp2
        go_ret
        exact ⟨k, HE.out, rfl, rfl⟩
      · have HK : Hid (∀ i, 1 ≤ i → i < k + 1 → gm a i ≠ 1) := by
          intro i h1 hi
          by_cases h : i = k
          · subst h; exact he
          · exact HN.out i h1 (by omega)
        have t' : (((gm a k : Nat) : Int) == 1) = false := by simp; omega
        have t : (gm a k == 1) = false := by simpa using he
        clear he
        go_wp2_with fail
        refine (refmul_any a k ha hlt _).mono ?_
        rintro e w' ⟨rfl, rfl⟩
        go_wp2
        go_round
        case rel => exact ⟨k + 1, by omega, by omega, HK.out, by go_num⟩
        case measure => simp [intOf]; omega
    · obtain rfl : k = 256 := by omega
      have HE : Hid (IsInv a 0) := ⟨by omega, fun _ => rfl, fun h => by
        have e := gd_gm 1 a (by omega) ha h
        rw [gm_comm] at e
        have l := gd_lt 1 a
        by_cases hz : gd 1 a = 0
        · rw [hz, gm_zero'] at e; omega
        · exact absurd e (HN.out (gd 1 a) (by omega) (by omega))⟩
      go_wp2
      go_ret
      exact ⟨0, HE.out, rfl, rfl⟩
theorem gd_inv (a b r : Nat) (ha : a < 256) (hb : b < 256) (h : b ≠ 0) (hr : IsInv b r) : gm a r = gd a b := by
  have e : gm (gm (gd a b) b) r = gm (gd a b) 1 := by rw [← gm_assoc, hr.2.2 h]
  rw [gd_gm a b ha hb h, gm_one _ (gd_lt a b)] at e
  exact e
/-- The quotient, and 0 by 0. -/
def gq (a b : Nat) : Nat := if b = 0 then 0 else gd a b
theorem gq_lt (a b : Nat) : gq a b < 256 := by
  unfold gq; split
  · omega
  · exact gd_lt a b
theorem divU (f a b : Nat) (ha : a < 256) (hb : b < 256) (w : World) (hF : IsF w f) :
    Calls Try.prog 45 #[.pointer (some ⟨f, 0, none⟩), .int .u8 (a : Int), .int .u8 (b : Int)] w fun e w' => e = .returned (.tuple #[.int .u8 (gq a b : Nat), .bool ((b : Int) != 0)]) ∧ ∃ m, w' = w.drewN m := by
  by_cases h : b = 0
  · have e1 : ((b : Int) != 0) = false := by simp; omega
    have e2 : gq a b = 0 := by rw [gq, if_pos h]
    rw [e1, e2]
    exact (divZ f a b h w).mono fun _ _ ⟨he, hw⟩ => ⟨he, 0, hw⟩
  · have e1 : ((b : Int) != 0) = true := by simp; omega
    have e2 : gq a b = gd a b := by rw [gq, if_neg h]
    rw [e1, e2]
    exact divN f a b ha h hb w hF
theorem gq_inv (a b r : Nat) (ha : a < 256) (hb : b < 256) (hr : IsInv b r) : gm a r = gq a b := by
  unfold gq; split
  · rename_i h; rw [hr.2.1 h, gm_zero']
  · rename_i h; exact gd_inv a b r ha hb h hr
theorem fresh_drewN (w : World) (m : Nat) : fresh (w.drewN m) = (fresh w).drewN m := rfl
end Go.Proofs.Ytnobpdgicglieaa.Gf
