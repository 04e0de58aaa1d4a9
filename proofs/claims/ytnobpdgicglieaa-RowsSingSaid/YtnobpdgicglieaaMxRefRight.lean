/-
  The document's own look whether rows are right; what the laws ask ahead (small).
-/
import Derived.Test.YtnobpdgicglieaaMxEqual
namespace Go.Proofs.Ytnobpdgicglieaa.Mx
open Go.ChangeShapes Go.WideShapes Go.ChangeAt Go.RowKit Go.Proofs.Ytnobpdgicglieaa.Gf

def Good (L : Nat → Nat) (i : Nat) : Prop := L i = L 0 ∧ 1 ≤ L i ∧ L i ≤ 32
theorem rightP_of {n : Nat} {L : Nat → Nat} (h1 : 1 ≤ n) (h2 : n ≤ 32) (h : ∀ i, i < n → Good L i) : RightP n L := ⟨h1, h2, (h 0 (by omega)).2.1, (h 0 (by omega)).2.2, fun i hi => (h i hi).1⟩
def RelRr (n : Nat) (L : Nat → Nat) (w : World) (I : Value) (wr : World) : Prop := ∃ k q : Nat, k ≤ n ∧ (∀ i, i < k → Good L i) ∧ I = .int .i64 (k : Int) ∧ wr = w.drewN q
set_option maxRecDepth 100000 in
set_option maxHeartbeats 1000000 in
theorem rright_yes (p : Option Addr) (n cn : Nat) (A : Nat → Option Addr) (L C : Nat → Nat) (w : World) (hr : Rag w p n A L C) (h : RightP n L) :
    Calls Try.prog 21 #[.slice p n cn] w fun e w' => e = .returned (.bool true) ∧ ∃ q, w' = w.drewN q := by
  obtain ⟨h1, h2, h3, h4, h5⟩ := h
  obtain ⟨B, O, rfl, hc⟩ := hr (by omega)
  have HC := Lib.hid hc; have H5 := Lib.hid h5
  clear hc h5 hr
  have n0 : (0 : Int) < (n : Int) := by omega
  go_enter Try.func21, Try.ntmps21
  go_wp2_with fail
  go_loopw [3] (fun I wr => RelEq n w I wr) (fun I _ => n - (intOf I).toNat)
  case atStart => exact ⟨0, 0, by omega, rfl, rfl⟩
  case round =>
    obtain ⟨k, q, hk, rfl, hw⟩ := hrel
    have HW := Lib.hid hw
    by_cases hlt : k < n
    · have c0 : wr.cell? ⟨B, O, none⟩ = some (.slice (A 0) (L 0) (C 0)) := by rw [hw]; simpa using HC.out 0 (by omega)
      have ck : wr.cell? ⟨B, O + k, none⟩ = some (.slice (A k) (L 0) (C k)) := by rw [hw, ← H5.out k hlt]; exact HC.out k hlt
      clear hw
      have k0 : (k : Int) < (n : Int) := by omega
      generalize L 0 = l at *
      have t1 : ((l : Int) != (l : Int)) = false := by simp
      have t2 : decide ((l : Int) < 1) = false := by simp; omega
      have t3 : decide ((32 : Int) < (l : Int)) = false := by simp; omega
      go_wp2_with fail
      go_quiet (fail)
      go_wp2
      go_roundw
      case rel => exact ⟨k + 1, _, by omega, by go_num, by rw [HW.out, World.drewN_drewN]⟩
      case measure => simp [intOf]; omega
    · obtain rfl : k = n := by omega
      clear hw
      go_wp2
      go_ret
      exact ⟨rfl, q, HW.out⟩
set_option maxRecDepth 100000 in
set_option maxHeartbeats 1000000 in
theorem rright_no (p : Option Addr) (n cn : Nat) (A : Nat → Option Addr) (L C : Nat → Nat) (w : World) (hn : n ≤ 4294967296) (hl : ∀ i, i < n → L i ≤ 4294967296) (hr : Rag w p n A L C) (h : ¬ RightP n L) :
    Calls Try.prog 21 #[.slice p n cn] w fun e w' => e = .returned (.bool false) ∧ ∃ q, w' = w.drewN q := by
  by_cases h1 : n < 1
  · obtain rfl : n = 0 := by omega
    clear h hr hl
    go_enter Try.func21, Try.ntmps21
    go_wp2
    go_ret
    exact ⟨rfl, 0, rfl⟩
  by_cases h2 : 32 < n
  · have n1 : 1 ≤ n := by omega
    have t1 : decide ((n : Int) < 1) = false := by simp; omega
    clear h hr hl h1
    go_enter Try.func21, Try.ntmps21
    go_wp2
    go_ret
    exact ⟨rfl, 0, rfl⟩
  obtain ⟨B, O, rfl, hc⟩ := hr (by omega)
  have HC := Lib.hid hc; have HL := Lib.hid hl; have HN : Hid (¬ ∀ i, i < n → Good L i) := fun k => h (rightP_of (by omega) (by omega) k)
  clear hc hl h hr
  have n0 : (0 : Int) < (n : Int) := by omega
  have n1 : 1 ≤ n := by omega
  have n2 : n ≤ 32 := by omega
  have t0 : decide ((n : Int) < 1) = false := by simp; omega
  have t0' : decide ((32 : Int) < (n : Int)) = false := by simp; omega
  clear h1 h2
  go_enter Try.func21, Try.ntmps21
  go_wp2_with fail
  go_loopw [3] (fun I wr => RelRr n L w I wr) (fun I _ => n - (intOf I).toNat)
  case atStart => exact ⟨0, 0, by omega, by omega, rfl, rfl⟩
  case round =>
    obtain ⟨k, q, hk, hall, rfl, hw⟩ := hrel
    have HW := Lib.hid hw; have HA := Lib.hid hall; clear hall
    by_cases hlt : k < n
    · have c0 : wr.cell? ⟨B, O, none⟩ = some (.slice (A 0) (L 0) (C 0)) := by rw [hw]; simpa using HC.out 0 (by omega)
      have ck : wr.cell? ⟨B, O + k, none⟩ = some (.slice (A k) (L k) (C k)) := by rw [hw]; exact HC.out k hlt
      have l0 := HL.out 0 (by omega)
      have lk := HL.out k hlt
      clear hw
      have k0 : (k : Int) < (n : Int) := by omega
      have HG : Hid (Good L k → ∀ i, i < k + 1 → Good L i) := fun hg i hi => by
        by_cases e : i = k
        · subst e; exact hg
        · exact HA.out i (by omega)
      by_cases he : L k = L 0
      · rw [he] at ck lk
        have HE := Lib.hid he
        have HG2 : Hid (1 ≤ L 0 → L 0 ≤ 32 → ∀ i, i < k + 1 → Good L i) := fun a b => HG.out ⟨he, by omega, by omega⟩
        clear he
        generalize L 0 = l at *
        have t1 : ((l : Int) != (l : Int)) = false := by simp
        by_cases g1 : l < 1
        · have t2 : decide ((l : Int) < 1) = true := by simp; omega
          go_wp2_with fail
          go_quiet (fail)
          go_wp2
          go_ret
          exact ⟨rfl, _, by rw [HW.out, World.drewN_drewN]⟩
        · have t2 : decide ((l : Int) < 1) = false := by simp; omega
          by_cases g2 : 32 < l
          · have t3 : decide ((32 : Int) < (l : Int)) = true := by simp; omega
            have g1' : 1 ≤ l := by omega
            clear g1
            go_wp2_with fail
            go_quiet (fail)
            go_wp2
            go_ret
            exact ⟨rfl, _, by rw [HW.out, World.drewN_drewN]⟩
          · have t3 : decide ((32 : Int) < (l : Int)) = false := by simp; omega
            have g1' : 1 ≤ l := by omega
            have g2' : l ≤ 32 := by omega
            clear g1 g2
            go_wp2_with fail
            go_quiet (fail)
            go_wp2
            go_roundw
            case rel => exact ⟨k + 1, _, by omega, HG2.out g1' g2', by go_num, by rw [HW.out, World.drewN_drewN]⟩
            case measure => simp [intOf]; omega
      · have t1 : ((L k : Int) != (L 0 : Int)) = true := by simp; omega
        have t1' : (L k != L 0) = true := by simpa using he
        clear he
        generalize L 0 = l at *
        generalize L k = l' at *
        go_wp2_with fail
        go_quiet (fail)
        go_wp2
        go_ret
        exact ⟨rfl, _, by rw [HW.out, World.drewN_drewN]⟩
    · obtain rfl : k = n := by omega
      exact absurd HA.out HN.out
/-- Rows so few that a reference is quick. -/
def SmallP (n : Nat) (L : Nat → Nat) : Prop := n ≤ 8 ∧ (n = 0 ∨ L 0 ≤ 8)
set_option maxRecDepth 100000 in
set_option maxHeartbeats 1000000 in
theorem small_yes (p : Option Addr) (n cn : Nat) (A : Nat → Option Addr) (L C : Nat → Nat) (w : World) (hr : Rag w p n A L C) (h : SmallP n L) :
    Calls Try.prog 19 #[.slice p n cn] w fun e w' => e = .returned (.bool true) ∧ w = w' := by
  obtain ⟨h1, h2⟩ := h
  by_cases h0 : n = 0
  · subst h0
    clear h2 hr
    go_enter Try.func19, Try.ntmps19
    go_wp2
    go_ret
    exact ⟨rfl, rfl⟩
  · obtain ⟨B, O, rfl, hc⟩ := hr (by omega)
    have c0 : w.cell? ⟨B, O, none⟩ = some (.slice (A 0) (L 0) (C 0)) := by simpa using hc 0 (by omega)
    have l0 : L 0 ≤ 8 := by omega
    have t1 : ((n : Int) == 0) = false := by simp; omega
    have t2 : (n == 0) = false := by simpa using h0
    have n0 : (0 : Int) < (n : Int) := by omega
    have t3 : decide ((L 0 : Int) ≤ 8) = true := by simp; omega
    clear hc h2 hr h0
    generalize L 0 = l at *
    go_enter Try.func19, Try.ntmps19
    go_wp2
    go_ret
    exact ⟨rfl, rfl⟩
set_option maxRecDepth 100000 in
set_option maxHeartbeats 1000000 in
theorem small_no (p : Option Addr) (n cn : Nat) (A : Nat → Option Addr) (L C : Nat → Nat) (w : World) (hn : n ≤ 4294967296) (hl : ∀ i, i < n → L i ≤ 4294967296) (hr : Rag w p n A L C) (h : ¬ SmallP n L) :
    Calls Try.prog 19 #[.slice p n cn] w fun e w' => e = .returned (.bool false) ∧ w = w' := by
  by_cases h1 : 8 < n
  · have t1 : decide ((n : Int) ≤ 8) = false := by simp; omega
    clear h hr hl
    go_enter Try.func19, Try.ntmps19
    go_wp2
    go_ret
    exact ⟨rfl, rfl⟩
  · have h0 : ¬ n = 0 := fun e => h ⟨by omega, Or.inl e⟩
    have l0 : 8 < L 0 := Nat.lt_of_not_le fun e => h ⟨by omega, Or.inr e⟩
    have l1 := hl 0 (by omega)
    obtain ⟨B, O, rfl, hc⟩ := hr (by omega)
    have c0 : w.cell? ⟨B, O, none⟩ = some (.slice (A 0) (L 0) (C 0)) := by simpa using hc 0 (by omega)
    have t1 : ((n : Int) == 0) = false := by simp; omega
    have t2 : (n == 0) = false := by simpa using h0
    have t3 : decide ((L 0 : Int) ≤ 8) = false := by simp; omega
    have n0 : (0 : Int) < (n : Int) := by omega
    have n8 : n ≤ 8 := by omega
    clear hc h hr h0 h1 hl
    generalize L 0 = l at *
    go_enter Try.func19, Try.ntmps19
    go_wp2
    go_ret
    exact ⟨rfl, rfl⟩
end Go.Proofs.Ytnobpdgicglieaa.Mx
