/-
  Rows of powers: Powers.
-/
import Derived.Test.YtkgfkchdbbeljaaMxBehind
namespace Go.Proofs.Ytkgfkchdbbeljaa.Mx
open Go.ChangeShapes Go.WideShapes Go.ChangeAt Go.RowKit Go.Proofs.Ytkgfkchdbbeljaa.Gf

/-- The byte of a number. -/
def kb (i : Nat) : K := ⟨i % 256, Nat.mod_lt _ (by decide)⟩
theorem Made2.of_fresh {n m : Nat} {x : Nat → Nat → K} {v : Value} {w : World} {e : Ending} {w' : World} (h : Made2 n m x v (fresh w) e w') : Made2 n m x v w e w' := by
  obtain ⟨B, r, he, ho, hb⟩ := h
  exact ⟨B, r, he, ho.mono (by rw [fresh_size]; omega), Below.next (fresh_below w) hb⟩
def RelPo (w : World) (B n m : Nat) (r : Nat → Nat) (z : Nat → Nat → K) (I : Value) (wr : World) : Prop := ∃ k : Nat, k ≤ n ∧ I = .int .i64 (k : Int) ∧ Fil w B n m r (fillTo z k 0) wr
def RelPi (w : World) (B n m : Nat) (r : Nat → Nat) (z : Nat → Nat → K) (k : Nat) (I : Value) (wr : World) : Prop := ∃ l : Nat, l ≤ m ∧ I = .int .i64 (l : Int) ∧ Fil w B n m r (fillTo z k l) wr
theorem kp_kb (i j : Nat) (h : i < 256) : gp i (j : Int) = (kp (kb i) j).n := by
  rw [kp_gp, show (kb i).n = i from Nat.mod_eq_of_lt h]
set_option maxRecDepth 100000 in
set_option maxHeartbeats 1000000 in
theorem powers_yes (n m : Nat) (h1 : 1 ≤ n) (h2 : n ≤ 32) (h3 : 1 ≤ m) (h4 : m ≤ 32) (w : World) :
    Calls Try.prog 18 #[.int .i64 (n : Int), .int .i64 (m : Int)] w (Made2 n m (fun i j => kp (kb i) j) (.bool true) w) := by
  have HF0 := Lib.hid (fresh_F w)
  go_enter Try.func18, Try.ntmps18
  go_wp2_with fail
  refine (fits_yes _ (by omega) (by omega) _).mono ?_
  rintro e w' ⟨rfl, rfl⟩
  go_wp2_with fail
  refine (fits_yes _ (by omega) (by omega) _).mono ?_
  rintro e w'' ⟨rfl, rfl⟩
  go_wp2_with fail
  refine (new_fresh _).mono ?_
  rintro e w0 ⟨rfl, hw0⟩
  have HW0 := Lib.hid hw0; clear hw0
  have HF1 : Hid (IsF w0 w''.heap.size) := by rw [HW0.out]; exact HF0.out
  clear HF0
  generalize hfb : w''.heap.size = fb at *
  have HFB := Lib.hid hfb; clear hfb
  go_wp2_with fail
  refine (blank_any n m (by omega) (by omega) _).mono ?_
  rintro e w1 ⟨B, r, rfl, ho, hb⟩
  have HO : Hid (Fil w0 B n m r (fillTo (fun i j => kp (kb i) j) 0 0) w1) := ⟨ho.congr fun a _ b _ => (fill_start _ _ _).symm, hb⟩
  clear ho hb
  go_wp2_with fail
  go_loopw [25] (fun I wr => RelPo w0 B n m r (fun i j => kp (kb i) j) I wr) (fun I _ => n - (intOf I).toNat)
  case atStart => exact ⟨0, by omega, rfl, HO.out⟩
  case round =>
    clear HO
    obtain ⟨k, hk, rfl, hF⟩ := hrel
    have HF := Lib.hid hF; clear hF
    by_cases hlt : k < n
    · have ct := HF.out.1.top.cell hlt
      have k0 : (k : Int) < (n : Int) := by omega
      go_wp2
      clear ct
      go_loopw [32] (fun I wi => RelPi w0 B n m r (fun i j => kp (kb i) j) k I wi) (fun I _ => m - (intOf I).toNat)
      case atStart => exact ⟨0, by omega, rfl, HF.out⟩
      case round =>
        clear HF
        obtain ⟨l, hl, rfl, hF⟩ := hrel
        have HF := Lib.hid hF; clear hF
        by_cases hll : l < m
        · have l0 : (l : Int) < (m : Int) := by omega
          have e1 := u8_of k (by omega)
          go_wp2_with fail
          refine (powN fb k l (by omega) _ (IsF.old HF1.out HF.out.2)).mono ?_
          rintro e w2 ⟨rfl, q, hq⟩
          have HF2 : Hid (Fil w0 B n m r (fillTo (fun i j => kp (kb i) j) k l) w2) := by rw [hq]; exact HF.out.drewN q
          clear hq
          have cr := (HF2.out.1.row k hlt).cell hll
          have fr := (HF2.out.1.row k hlt).frozen l
          have HS := Lib.hid (HF2.out.set hlt l (kp (kb k) l) fun a _ b _ => fill_step (fun i j => kp (kb i) j) k l a b)
          rw [kp_kb k l (by omega)]
          generalize kp (kb k) l = u at *
          go_wp2
          go_roundw
          case rel => exact ⟨l + 1, by omega, by go_num, HS.out⟩
          case measure => simp [intOf]; omega
        · obtain rfl : l = m := by omega
          go_wp2
          go_roundw
          case rel => exact ⟨k + 1, by omega, by go_num, HF.out.congr fun a _ b hb => fill_row _ _ _ _ _ hb⟩
          case measure => simp [intOf]; omega
    · obtain rfl : k = n := by omega
      go_wp2
      go_ret2
      refine Made2.of_fresh ?_
      rw [← HW0.out]
      exact ⟨B, r, rfl, HF.out.1.congr fun a ha b _ => fill_done _ _ _ _ ha, HF.out.2⟩
set_option maxHeartbeats 400000 in
theorem powers_no (n m : Int) (h : n < 1 ∨ 32 < n ∨ m < 1 ∨ 32 < m) (w : World) :
    Calls Try.prog 18 #[.int .i64 n, .int .i64 m] w fun e w' => e = .returned (.tuple #[.slice none 0 0, .bool false]) ∧ w' = w := by
  have H := Lib.hid h; clear h
  by_cases hn : n < 1 ∨ 32 < n
  · have HN := Lib.hid hn; clear hn
    go_enter Try.func18, Try.ntmps18
    go_wp2_with fail
    refine (fits_no _ HN.out _).mono ?_
    rintro e w' ⟨rfl, rfl⟩
    go_wp2_with fail
    go_ret2
    exact ⟨rfl, rfl⟩
  · have HN := Lib.hid hn; clear hn
    go_enter Try.func18, Try.ntmps18
    go_wp2_with fail
    refine (fits_yes _ (by have := HN.out; omega) (by have := HN.out; omega) _).mono ?_
    rintro e w' ⟨rfl, rfl⟩
    go_wp2_with fail
    refine (fits_no _ (by have := HN.out; have := H.out; omega) _).mono ?_
    rintro e w'' ⟨rfl, rfl⟩
    go_wp2_with fail
    go_ret2
    exact ⟨rfl, rfl⟩
end Go.Proofs.Ytkgfkchdbbeljaa.Mx
