/-
  Whether rows are right (rows.Right), of rows of whatever lengths.
-/
import Derived.Test.YtkgfkchdbbeljaaMxBlank
namespace Go.Proofs.Ytkgfkchdbbeljaa.Mx
open Go.ChangeShapes Go.WideShapes Go.ChangeAt Go.RowKit Go.Proofs.Ytkgfkchdbbeljaa.Gf

/-- Rows of whatever lengths, behind whatever pointer. -/
def Rag (w : World) (p : Option Addr) (n : Nat) (A : Nat → Option Addr) (L C : Nat → Nat) : Prop :=
  0 < n → ∃ B O, p = some ⟨B, O, none⟩ ∧ ∀ i, i < n → w.cell? ⟨B, O + i, none⟩ = some (.slice (A i) (L i) (C i))
theorem Rag.drewN {w : World} {p : Option Addr} {n : Nat} {A : Nat → Option Addr} {L C : Nat → Nat} (h : Rag w p n A L C) (m : Nat) : Rag (w.drewN m) p n A L C := h
theorem Rag.below {w w' : World} {p : Option Addr} {n : Nat} {A : Nat → Option Addr} {L C : Nat → Nat} (h : Rag w p n A L C) (k : Below w.heap.size w w') : Rag w' p n A L C := fun hn => by
  obtain ⟨B, O, e, hc⟩ := h hn
  exact ⟨B, O, e, fun i hi => by rw [k.cell (p := ⟨B, O + i, none⟩) (block_lt_of_cell (hc i hi))]; exact hc i hi⟩
/-- 1 to 32 rows, of 1 to 32 bytes each, all as long. -/
def RightP (n : Nat) (L : Nat → Nat) : Prop := 1 ≤ n ∧ n ≤ 32 ∧ 1 ≤ L 0 ∧ L 0 ≤ 32 ∧ ∀ i, i < n → L i = L 0
theorem Mat.rag {w : World} {B O n m : Nat} {b o c : Nat → Nat} {x : Nat → Nat → K} (h : Mat w B O n m b o c x) : Rag w (some ⟨B, O, none⟩) n (fun i => some ⟨b i, o i, none⟩) (fun _ => m) c :=
  fun _ => ⟨B, O, rfl, h.top⟩
def RelRt (n : Nat) (L : Nat → Nat) (I : Value) : Prop := ∃ k : Nat, k ≤ n ∧ (∀ i, i < k → L i = L 0) ∧ I = .int .i64 (k : Int)
set_option maxRecDepth 100000 in
set_option maxHeartbeats 1000000 in
theorem right_yes (p : Option Addr) (n cn : Nat) (A : Nat → Option Addr) (L C : Nat → Nat) (w : World) (hr : Rag w p n A L C) (h : RightP n L) :
    Calls Try.prog 34 #[.slice p n cn] w fun e w' => e = .returned (.bool true) ∧ w' = w := by
  obtain ⟨h1, h2, h3, h4, h5⟩ := h
  obtain ⟨B, O, rfl, hc⟩ := hr (by omega)
  have c0 : w.cell? ⟨B, O, none⟩ = some (.slice (A 0) (L 0) (C 0)) := by simpa using hc 0 (by omega)
  have HC := Lib.hid hc; have H5 := Lib.hid h5
  clear hc h5 hr
  generalize hL : L 0 = l0 at *
  have HL := Lib.hid hL; clear hL
  have n0 : (0 : Int) < (n : Int) := by omega
  go_enter Try.func34, Try.ntmps34
  go_wp2_with fail
  refine (fits_yes _ (by omega) (by omega) _).mono ?_
  rintro e w' ⟨rfl, rfl⟩
  go_wp2_with fail
  refine (fits_yes _ (by omega) (by omega) _).mono ?_
  rintro e w' ⟨rfl, rfl⟩
  go_wp2_with fail
  go_loop [19] (fun I => RelRt n L I) (fun I => n - (intOf I).toNat)
  case atStart => exact ⟨0, by omega, by omega, rfl⟩
  case round =>
    obtain ⟨k, hk, hall, rfl⟩ := hrel
    clear hall
    by_cases hlt : k < n
    · have ck := HC.out k hlt
      rw [H5.out k hlt] at ck
      have k0 : (k : Int) < (n : Int) := by omega
      go_wp2
      go_round
      case rel => exact ⟨k + 1, by omega, fun i hi => by rw [H5.out i (by omega), HL.out], by go_num⟩
      case measure => simp [intOf]; omega
    · obtain rfl : k = n := by omega
      go_wp2
      go_ret
      exact ⟨rfl, rfl⟩
set_option maxRecDepth 100000 in
set_option maxHeartbeats 1000000 in
theorem right_no (p : Option Addr) (n cn : Nat) (A : Nat → Option Addr) (L C : Nat → Nat) (w : World) (hn : n ≤ 4294967296) (hl : ∀ i, i < n → L i ≤ 4294967296) (hr : Rag w p n A L C) (h : ¬ RightP n L) :
    Calls Try.prog 34 #[.slice p n cn] w fun e w' => e = .returned (.bool false) ∧ w' = w := by
  by_cases h1 : n < 1 ∨ 32 < n
  · clear h hr hl
    go_enter Try.func34, Try.ntmps34
    go_wp2_with fail
    refine (fits_no _ (by omega) _).mono ?_
    rintro e w' ⟨rfl, rfl⟩
    go_wp2_with fail
    go_ret
    exact ⟨rfl, rfl⟩
  obtain ⟨B, O, rfl, hc⟩ := hr (by omega)
  have c0 : w.cell? ⟨B, O, none⟩ = some (.slice (A 0) (L 0) (C 0)) := by simpa using hc 0 (by omega)
  have l0 := hl 0 (by omega)
  have n0 : (0 : Int) < (n : Int) := by omega
  have n1 : 1 ≤ n ∧ n ≤ 32 := by omega
  by_cases h2 : L 0 < 1 ∨ 32 < L 0
  · have H2 := Lib.hid h2
    clear h hr h1 hc h2
    generalize L 0 = l at *
    have HL := Lib.hid hl; clear hl
    obtain ⟨n2, n3⟩ := n1
    go_enter Try.func34, Try.ntmps34
    go_wp2_with fail
    refine (fits_yes _ (by omega) (by omega) _).mono ?_
    rintro e w' ⟨rfl, rfl⟩
    go_wp2_with fail
    refine (fits_no _ (by have := H2.out; omega) _).mono ?_
    rintro e w' ⟨rfl, rfl⟩
    go_wp2_with fail
    go_ret
    exact ⟨rfl, rfl⟩
  have HN : Hid (¬ ∀ i, i < n → L i = L 0) := fun k => h ⟨by omega, by omega, by omega, by omega, k⟩
  have HC := Lib.hid hc; have HL := Lib.hid hl
  have l1 : 1 ≤ L 0 ∧ L 0 ≤ 32 := by omega
  clear hc hl h hr h1 h2
  obtain ⟨n2, n3⟩ := n1
  obtain ⟨l2, l3⟩ := l1
  generalize hL0 : L 0 = l at *
  have HL0 := Lib.hid hL0; clear hL0
  go_enter Try.func34, Try.ntmps34
  go_wp2_with fail
  refine (fits_yes _ (by omega) (by omega) _).mono ?_
  rintro e w' ⟨rfl, rfl⟩
  go_wp2_with fail
  refine (fits_yes _ (by omega) (by omega) _).mono ?_
  rintro e w' ⟨rfl, rfl⟩
  go_wp2_with fail
  go_loop [19] (fun I => RelRt n L I) (fun I => n - (intOf I).toNat)
  case atStart => exact ⟨0, by omega, by omega, rfl⟩
  case round =>
    obtain ⟨k, hk, hall, rfl⟩ := hrel
    have HA := Lib.hid hall; clear hall
    by_cases hlt : k < n
    · have ck := HC.out k hlt
      have lk := HL.out k hlt
      have k0 : (k : Int) < (n : Int) := by omega
      by_cases he : L k = l
      · rw [he] at ck
        have HE := Lib.hid he; clear he lk
        go_wp2
        go_round
        case rel => exact ⟨k + 1, by omega, fun i hi => by
          by_cases e : i = k
          · subst e; rw [HE.out, HL0.out]
          · exact HA.out i (by omega), by go_num⟩
        case measure => simp [intOf]; omega
      · have t : ((L k : Int) != (l : Int)) = true := by simp; omega
        have t' : (L k != l) = true := by simpa using he
        clear he
        generalize L k = lk' at *
        go_wp2
        go_ret
        exact ⟨rfl, rfl⟩
    · obtain rfl : k = n := by omega
      exact absurd (fun i hi => by rw [HA.out i hi, HL0.out]) HN.out
end Go.Proofs.Ytkgfkchdbbeljaa.Mx
