/-
  The document's own looks at rows (package stookref02): IsOne, Equal, Right; what the laws ask ahead: few, small.
-/
import Derived.Test.YtnobpdgicglieaaMxRight
import Derived.Laws.BytesString
namespace Go.Proofs.Ytnobpdgicglieaa.Mx
open Go.ChangeShapes Go.WideShapes Go.ChangeAt Go.RowKit Go.Proofs.Ytnobpdgicglieaa.Gf

def RelIdx (n : Nat) (I : Value) : Prop := ∃ k : Nat, k ≤ n ∧ I = .int .i64 (k : Int)
set_option maxRecDepth 100000 in
set_option maxHeartbeats 1000000 in
theorem isone_yes (P O n m cn : Nat) (b o c : Nat → Nat) (x : Nat → Nat → K) (w : World) (hn : n ≤ 4096) (hm : m ≤ 4096) (hM : Mat w P O n m b o c x) (hx : ∀ i, i < n → ∀ j, j < m → x i j = one i j) :
    Calls Try.prog 14 #[.slice (some ⟨P, O, none⟩) n cn] w fun e w' => e = .returned (.bool true) ∧ w = w' := by
  have HM := Lib.hid (hM.congr hx); clear hM hx
  go_enter Try.func14, Try.ntmps14
  go_wp2_with fail
  go_loop [3] (fun I => RelIdx n I) (fun I => n - (intOf I).toNat)
  case atStart => exact ⟨0, by omega, rfl⟩
  case round =>
    obtain ⟨k, hk, rfl⟩ := hrel
    by_cases hlt : k < n
    · have k0 : (k : Int) < (n : Int) := by omega
      have ct := HM.out.top k hlt
      go_wp2_with fail
      go_loop [4] (fun I => RelIdx m I) (fun I => m - (intOf I).toNat)
      case atStart => exact ⟨0, by omega, rfl⟩
      case round =>
        obtain ⟨j, hj, rfl⟩ := hrel
        by_cases hll : j < m
        · have j0 : (j : Int) < (m : Int) := by omega
          have cr := HM.out.row k hlt j hll
          by_cases e : k = j
          · have e1 : ((k : Int) == (j : Int)) = true := by simp; omega
            have e2 : (k == j) = true := by simpa using e
            have e3 : ((k : Int) != (j : Int)) = false := by simp; omega
            have e4 : (k != j) = false := by simpa using e
            rw [show (one k j).n = 1 from by rw [one, if_pos e]; rfl] at cr
            clear e
            go_wp2
            go_round
            case rel => exact ⟨j + 1, by omega, by go_num⟩
            case measure => simp [intOf]; omega
          · have e1 : ((k : Int) == (j : Int)) = false := by simp; omega
            have e2 : (k == j) = false := by simpa using e
            have e3 : ((k : Int) != (j : Int)) = true := by simp; omega
            have e4 : (k != j) = true := by simpa using e
            rw [show (one k j).n = 0 from by rw [one, if_neg e]; rfl] at cr
            clear e
            go_wp2
            go_round
            case rel => exact ⟨j + 1, by omega, by go_num⟩
            case measure => simp [intOf]; omega
        · obtain rfl : j = m := by omega
          go_wp2
          go_round
          case rel => exact ⟨k + 1, by omega, by go_num⟩
          case measure => simp [intOf]; omega
    · obtain rfl : k = n := by omega
      go_wp2
      go_ret
      exact ⟨rfl, rfl⟩
/-- Rows of a size that is looked at. -/
def FewP (n : Nat) (L : Nat → Nat) : Prop := n ≤ 40 ∧ ∀ i, i < n → L i ≤ 40
def RelFew (n : Nat) (L : Nat → Nat) (I : Value) : Prop := ∃ k : Nat, k ≤ n ∧ (∀ i, i < k → L i ≤ 40) ∧ I = .int .i64 (k : Int)
set_option maxRecDepth 100000 in
set_option maxHeartbeats 1000000 in
theorem few_yes (p : Option Addr) (n cn : Nat) (A : Nat → Option Addr) (L C : Nat → Nat) (w : World) (hr : Rag w p n A L C) (h : FewP n L) :
    Calls Try.prog 11 #[.slice p n cn] w fun e w' => e = .returned (.bool true) ∧ w = w' := by
  obtain ⟨h1, h2⟩ := h
  have HR := Lib.hid hr; have H2 := Lib.hid h2; clear hr h2
  go_enter Try.func11, Try.ntmps11
  go_wp2_with fail
  go_loop [3] (fun I => RelIdx n I) (fun I => n - (intOf I).toNat)
  case atStart => exact ⟨0, by omega, rfl⟩
  case round =>
    obtain ⟨k, hk, rfl⟩ := hrel
    by_cases hlt : k < n
    · have k0 : (k : Int) < (n : Int) := by omega
      obtain ⟨B, O, rfl, hc⟩ := HR.out (by omega)
      have ck := hc k hlt
      have lk := H2.out k hlt
      clear hc
      go_wp2
      go_round
      case rel => exact ⟨k + 1, by omega, by go_num⟩
      case measure => simp [intOf]; omega
    · obtain rfl : k = n := by omega
      go_wp2
      go_ret
      exact ⟨rfl, rfl⟩
set_option maxRecDepth 100000 in
set_option maxHeartbeats 1000000 in
theorem few_no (p : Option Addr) (n cn : Nat) (A : Nat → Option Addr) (L C : Nat → Nat) (w : World) (hn : n ≤ maxLen) (hl : ∀ i, i < n → L i ≤ maxLen) (hr : Rag w p n A L C) (h : ¬ FewP n L) :
    Calls Try.prog 11 #[.slice p n cn] w fun e w' => e = .returned (.bool false) ∧ w = w' := by
  unfold maxLen at hn
  by_cases h1 : 40 < n
  · clear h hr hl
    go_enter Try.func11, Try.ntmps11
    go_wp2
    go_ret
    exact ⟨rfl, rfl⟩
  have HN : Hid (¬ ∀ i, i < n → L i ≤ 40) := fun k => h ⟨by omega, k⟩
  have HR := Lib.hid hr; have HL := Lib.hid hl; clear hr h hl
  go_enter Try.func11, Try.ntmps11
  go_wp2_with fail
  go_loop [3] (fun I => RelFew n L I) (fun I => n - (intOf I).toNat)
  case atStart => exact ⟨0, by omega, by omega, rfl⟩
  case round =>
    obtain ⟨k, hk, hall, rfl⟩ := hrel
    have HA := Lib.hid hall; clear hall
    by_cases hlt : k < n
    · have k0 : (k : Int) < (n : Int) := by omega
      obtain ⟨B, O, rfl, hc⟩ := HR.out (by omega)
      have ck := hc k hlt
      have lk := HL.out k hlt
      unfold maxLen at lk
      clear hc
      by_cases he : L k ≤ 40
      · have HE := Lib.hid he
        go_wp2
        go_round
        case rel => exact ⟨k + 1, by omega, fun i hi => by
          by_cases e : i = k
          · subst e; exact HE.out
          · exact HA.out i (by omega), by go_num⟩
        case measure => simp [intOf]; omega
      · have he' : 40 < L k := by omega
        clear he
        go_wp2
        go_ret
        exact ⟨rfl, rfl⟩
    · obtain rfl : k = n := by omega
      exact absurd HA.out HN.out
end Go.Proofs.Ytnobpdgicglieaa.Mx
