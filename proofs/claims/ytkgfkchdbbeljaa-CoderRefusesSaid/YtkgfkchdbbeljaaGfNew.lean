/-
  The contracts of package gf's functions, over this seat's translation: what gf.New lays in memory, and what each call on such a field answers.
-/
import Derived.Test.YtkgfkchdbbeljaaRows
import Derived.Test.YtkgfkchdbbeljaaGfMath
import Derived.WalkKit
import Derived.ProofKit
import Derived.OpenShut
import Derived.WalkMore
import Derived.ScopeJumps
import Derived.Deep.QuietTactic
import Derived.BigQuiet
import Derived.Lib.Hide
namespace Go.Proofs.Ytkgfkchdbbeljaa.Gf
open Go.ChangeShapes Go.WideShapes Go.ChangeAt Go.RowKit

theorem i64_xor (a b : Nat) (ha : a < 4294967296) (hb : b < 4294967296) : bits .xor .i64 (a : Int) (b : Int) = ((a ^^^ b : Nat) : Int) := by
  have hx : a ^^^ b < 2 ^ 32 := Nat.xor_lt_two_pow (by omega) (by omega)
  show IntKind.i64.wrap ((BitVec.ofInt 64 (a : Int) ^^^ BitVec.ofInt 64 (b : Int)).toNat : Int) = _
  rw [BitVec.toNat_xor, ofInt_u64 a (by omega), ofInt_u64 b (by omega)]
  simp [IntKind.wrap, IntKind.bits, IntKind.signed]
  omega
theorem dbl_hi (p : Nat) (h1 : p ≤ 255) (h : 255 < (p : Int) * 2) : bits .xor .i64 ((p : Int) * 2) 285 = (dbl p : Int) := by
  have := i64_xor (p * 2) 285 (by omega) (by omega)
  rw [dbl, if_pos (by omega)]
  simpa using this
theorem dbl_lo (p : Nat) (h : (p : Int) * 2 ≤ 255) : (p : Int) * 2 = (dbl p : Int) := by
  rw [dbl, if_neg (by omega)]; simp

set_option maxHeartbeats 400000 in
theorem double_any (p : Int) (h0 : 0 ≤ p) (h1 : p ≤ 255) (w : World) :
    Calls Try.prog 40 #[.int .i64 p] w fun e w' => e = .returned (.int .i64 (dbl p.toNat : Nat)) ∧ w = w' := by
  obtain ⟨p, rfl⟩ := Int.eq_ofNat_of_zero_le h0
  rw [Int.toNat_natCast]
  go_enter Try.func40, Try.ntmps40
  go_wp2
  · rename_i h
    go_ret
    exact ⟨congrArg (fun x => Ending.returned (.int .i64 x)) (dbl_hi p (by omega) h), rfl⟩
  · rename_i h
    go_ret
    exact ⟨congrArg (fun x => Ending.returned (.int .i64 x)) (dbl_lo p h), rfl⟩

def Z : Array Value := Array.replicate 511 (.int .u8 0)
/-- The block that gf.New makes, behind k rounds. -/
def T : Nat → Array Value
  | 0 => Z
  | k + 1 => ((T k).setIfInBounds k (.int .u8 (pw k))).setIfInBounds (255 + pw k) (.int .u8 k)
theorem T_size (k : Nat) : (T k).size = 511 := by
  induction k with
  | zero => simp [T, Z]
  | succ k ih => simp [T, ih]
theorem zeroF (w : World) : Sem.run Try.prog (zeroValue 77) w = .ok (.agg Z) w := by kernel_rfl
theorem T_some (k i : Nat) (h : i < 511) : ∃ v, (T k)[i]? = some v := ⟨(T k)[i]'(by rw [T_size]; exact h), by simp [T_size, h]⟩
theorem u8_of (n : Nat) (h : n ≤ 255) : IntKind.u8.wrap (n : Int) = n := by rw [IntKind.wrap_u8']; omega

def J (w : World) (a' : Act) (w' : World) : Prop := ∃ (k : Nat) (u6 u7 u8 u9 u10 u11 u12 u13 u14 u15 u16 u17 u18 u19 u20 u21 u22 u23 u24 u25 : Value), k < 255 ∧ w' = w.alloc (.cells (T k) 77) ∧
  a' = { tmps := #[.pointer none, .pointer (some ⟨w.heap.size, 0, none⟩), .int .i64 (pw k : Nat), .int .i64 (k : Nat), .agg Z, .pointer (some ⟨w.heap.size, 0, none⟩), u6, u7, u8, u9, u10, u11, u12, u13, u14, u15, u16, u17, u18, u19, u20, u21, u22, u23, u24, u25, undef], defers := [] }
def mu (a : Act) (_ : World) : Nat := 255 - (intOf (a.tmps.getD 3 undef)).toNat
set_option maxRecDepth 1000000 in
set_option maxHeartbeats 400000 in
theorem new_any (w : World) :
    Calls Try.prog 23 #[] w fun e w' => e = .returned (.pointer (some ⟨w.heap.size, 0, none⟩)) ∧ w' = w.alloc (.cells (T 255) 77) := by
  have hz := zeroF
  go_enter Try.func23, Try.ntmps23
  go_wp2
  refine wp_scope_jumps 0 (J w) mu rfl ?_ ?_
  · go_wp2_with (fail)
    go_step3
    obtain ⟨v0, hv0⟩ := T_some 0 0 (by omega)
    have hv0' : Z[0]? = some v0 := hv0
    obtain ⟨v1, hv1⟩ := T_some 0 (256) (by omega)
    have hv1' : Z[256]? = some v1 := hv1
    have hsz : Z.size = 511 := T_size 0
    clear hv0 hv1
    go_wp2_with (fail)
    refine (double_any _ (by omega) (by omega) _).mono ?_
    rintro e w' ⟨rfl, rfl⟩
    go_wp2_with (fail)
    go_step3
    refine ⟨rfl, 1, _, _, _, _, _, _, _, _, _, _, _, _, _, _, _, _, _, _, _, _, by omega, rfl, rfl⟩
  · rintro a' w' ⟨k, u6, u7, u8, u9, u10, u11, u12, u13, u14, u15, u16, u17, u18, u19, u20, u21, u22, u23, u24, u25, hk, rfl, rfl⟩
    have hb := pw_le k hk
    obtain ⟨v0, hv0⟩ := T_some k k (by omega)
    obtain ⟨v1, hv1⟩ := T_some k (255 + pw k) (by omega)
    obtain ⟨p, hp⟩ : ∃ p, p = pw k := ⟨_, rfl⟩
    have hsz := T_size k
    rw [← hp] at hb hv1 ⊢
    have hq : pw (k + 1) = dbl p := by rw [hp]; rfl
    have ht : T (k + 1) = ((T k).setIfInBounds k (.int .u8 p)).setIfInBounds (255 + p) (.int .u8 k) := by rw [hp]; rfl
    have HQ := Lib.hid hq; have HT := Lib.hid ht; have HP := Lib.hid hp
    clear hq ht hp
    have hv2 : ((T k).setIfInBounds k (.int .u8 p))[255 + p]? = some v1 := by rw [Array.getElem?_setIfInBounds_ne (by omega)]; exact hv1
    clear hv1
    have e1 := u8_of p (by omega)
    have e2 := u8_of k (by omega)
    by_cases hlt : k + 1 < 255
    · go_wp2_with (fail)
      refine (double_any _ (by omega) (by omega) _).mono ?_
      rintro e w' ⟨rfl, rfl⟩
      go_wp2_with (fail)
      go_step3
      refine ⟨rfl, ⟨k + 1, _, _, _, _, _, _, _, _, _, _, _, _, _, _, _, _, _, _, _, _, hlt, by rw [HT.out], by rw [HQ.out]; rfl⟩, ?_⟩
      simp [mu, intOf]; omega
    · obtain rfl : k = 254 := by omega
      go_wp2_with (fail)
      refine (double_any _ (by omega) (by omega) _).mono ?_
      rintro e w' ⟨rfl, rfl⟩
      go_wp2_with (fail)
      simp only [Exit.jump]
      go_ret
      exact ⟨rfl, by rw [HT.out]; rfl⟩

theorem T_low : ∀ k, k ≤ 255 → ∀ i, i < k → (T k)[i]? = some (.int .u8 (pw i : Nat)) := by
  intro k
  induction k with
  | zero => intro _ i hi; omega
  | succ k ih =>
    intro hk i hi
    rw [T, Array.getElem?_setIfInBounds_ne (by omega)]
    by_cases h : i = k
    · subst h; rw [Array.getElem?_setIfInBounds_self_of_lt (by rw [T_size]; omega)]
    · rw [Array.getElem?_setIfInBounds_ne (by omega)]; exact ih (by omega) i (by omega)
theorem T_high : ∀ k, k ≤ 255 → ∀ i, i < k → (T k)[255 + pw i]? = some (.int .u8 (i : Nat)) := by
  intro k
  induction k with
  | zero => intro _ i hi; omega
  | succ k ih =>
    intro hk i hi
    have hb := pw_le i (by omega)
    rw [T]
    by_cases h : i = k
    · subst h; rw [Array.getElem?_setIfInBounds_self_of_lt (by rw [Array.size_setIfInBounds, T_size]; omega)]
    · have hn : pw k ≠ pw i := fun e => h (by rw [← lg_pw k (by omega), ← lg_pw i (by omega), e])
      rw [Array.getElem?_setIfInBounds_ne (by omega), Array.getElem?_setIfInBounds_ne (by omega)]; exact ih (by omega) i (by omega)
theorem T_zero : ∀ k, k ≤ 255 → (T k)[255]? = some (.int .u8 0) := by
  intro k
  induction k with
  | zero => intro _; simp [T, Z]
  | succ k ih =>
    intro hk
    have hb := pw_le k (by omega)
    rw [T, Array.getElem?_setIfInBounds_ne (by omega), Array.getElem?_setIfInBounds_ne (by omega)]; exact ih (by omega)
theorem T_exp (x : Nat) (hx : x < 256) : (T 255)[255 + x]? = some (.int .u8 (lg x : Nat)) := by
  by_cases h : x = 0
  · subst h; rw [lg0]; exact T_zero 255 (by omega)
  · have l := lg_le x hx
    have := T_high 255 (by omega) (lg x) (by omega)
    rwa [pw_lg x hx h] at this

/-- A field lies in block b. -/
structure IsF (w : World) (b : Nat) : Prop where
  pow : ∀ i, i < 255 → w.cell? ⟨b, i, none⟩ = some (.int .u8 (pw i : Nat))
  log : ∀ x, x < 256 → w.cell? ⟨b, 255 + x, none⟩ = some (.int .u8 (lg x : Nat))
theorem IsF.drewN {w : World} {b : Nat} (h : IsF w b) (n : Nat) : IsF (w.drewN n) b := ⟨h.pow, h.log⟩
theorem IsF.new (w : World) : IsF (w.alloc (.cells (T 255) 77)) w.heap.size :=
  ⟨fun i hi => by rw [World.cell?_alloc_at _ _ _ _ rfl]; exact T_low 255 (by omega) i hi, fun x hx => by rw [World.cell?_alloc_at _ _ _ _ rfl]; exact T_exp x hx⟩
theorem IsF.alloc {w : World} {b : Nat} (h : IsF w b) (hb : b < w.heap.size) (o : Obj) : IsF (w.alloc o) b :=
  ⟨fun i hi => by rw [World.cell?_alloc_past _ _ _ hb]; exact h.pow i hi, fun x hx => by rw [World.cell?_alloc_past _ _ _ hb]; exact h.log x hx⟩
theorem IsF.below {w w' : World} {b B : Nat} (h : IsF w b) (hb : b < B) (hB : Below B w w') : IsF w' b :=
  ⟨fun i hi => by rw [hB.cell (p := ⟨b, i, none⟩) hb]; exact h.pow i hi, fun x hx => by rw [hB.cell (p := ⟨b, 255 + x, none⟩) hb]; exact h.log x hx⟩

end Go.Proofs.Ytkgfkchdbbeljaa.Gf
