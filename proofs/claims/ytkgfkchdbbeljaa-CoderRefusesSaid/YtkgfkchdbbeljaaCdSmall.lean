/-
  The contracts of coder's small functions: numbered, sameLength, dataNumbers, Sizes.
-/
import Derived.Test.YtkgfkchdbbeljaaCdMem
namespace Go.Proofs.Ytkgfkchdbbeljaa.Cd
open Go.ChangeShapes Go.WideShapes Go.ChangeAt Go.RowKit Go.Proofs.Ytkgfkchdbbeljaa.Gf Go.Proofs.Ytkgfkchdbbeljaa.Mx

set_option maxHeartbeats 400000 in
theorem numbered_yes (c : Nat) (n at_ : Int) (w : World) (hc : w.cell? ⟨c, 1, none⟩ = some (.int .i64 n)) (h0 : 0 ≤ at_) (h1 : at_ < n) :
    Calls Try.prog 29 #[.pointer (some ⟨c, 0, none⟩), .int .i64 at_] w fun e w' => e = .returned (.bool true) ∧ w' = w := by
  go_enter Try.func29, Try.ntmps29
  go_wp2
  go_ret
  exact ⟨rfl, rfl⟩
set_option maxHeartbeats 400000 in
theorem numbered_no (c : Nat) (n at_ : Int) (w : World) (hc : w.cell? ⟨c, 1, none⟩ = some (.int .i64 n)) (h : at_ < 0 ∨ n ≤ at_) :
    Calls Try.prog 29 #[.pointer (some ⟨c, 0, none⟩), .int .i64 at_] w fun e w' => e = .returned (.bool false) ∧ w' = w := by
  by_cases h1 : at_ < 0
  · clear h
    have t : decide (0 ≤ at_) = false := by simp; omega
    go_enter Try.func29, Try.ntmps29
    go_wp2
    go_ret
    exact ⟨rfl, rfl⟩
  · have h2 : 0 ≤ at_ := by omega
    have h3 : n ≤ at_ := by omega
    have t : decide (at_ < n) = false := by simp; omega
    clear h h1
    go_enter Try.func29, Try.ntmps29
    go_wp2
    go_ret
    exact ⟨rfl, rfl⟩
/-- All texts are as long. -/
def Ev (n : Nat) (t : Nat → ByteArray) : Prop := ∀ i, i < n → (t i).size = (t 0).size
def RelEv (n : Nat) (t : Nat → ByteArray) (I : Value) : Prop := ∃ k : Nat, k ≤ n ∧ Ev k t ∧ I = .int .i64 (k : Int)
set_option maxHeartbeats 400000 in
theorem same_yes (p : Option Addr) (n cn : Nat) (t : Nat → ByteArray) (w : World) (hn : n ≤ 4294967296) (hS : Strs w p n t) (h : Ev n t) :
    Calls Try.prog 24 #[.slice p n cn] w fun e w' => e = .returned (.bool true) ∧ w' = w := by
  have HS := Lib.hid hS; have H := Lib.hid h; clear hS h
  go_enter Try.func24, Try.ntmps24
  go_wp2
  go_loop [7] (fun I => RelEv n t I) (fun I => n - (intOf I).toNat)
  case atStart => exact ⟨0, by omega, fun i hi => by omega, rfl⟩
  case round =>
    obtain ⟨k, hk, hE, rfl⟩ := hrel
    have HE := Lib.hid hE; clear hE
    by_cases hlt : k < n
    · obtain ⟨B, O, rfl, hc⟩ := HS.out (by omega)
      have ck := hc k hlt
      have c0 := hc 0 (by omega)
      rw [Nat.add_zero] at c0
      have k0 : (k : Int) < (n : Int) := by omega
      have n0 : (0 : Int) < (n : Int) := by omega
      have hz := H.out k hlt
      have tz : (((t k).size : Int) != ((t 0).size : Int)) = false := by simp [hz]
      have tz' : ((t k).size != (t 0).size) = false := by simp [hz]
      clear hc hz
      generalize t k = tk at *
      generalize t 0 = t0 at *
      go_wp2
      go_round
      case rel => exact ⟨k + 1, by omega, fun i hi => H.out i (by omega), by go_num⟩
      case measure => simp [intOf]; omega
    · obtain rfl : k = n := by omega
      go_wp2
      go_ret
      exact ⟨rfl, rfl⟩
set_option maxHeartbeats 400000 in
theorem same_no (p : Option Addr) (n cn : Nat) (t : Nat → ByteArray) (w : World) (hn : n ≤ 4294967296) (hS : Strs w p n t) (h : ¬ Ev n t) :
    Calls Try.prog 24 #[.slice p n cn] w fun e w' => e = .returned (.bool false) ∧ w' = w := by
  have HS := Lib.hid hS; have H := Lib.hid h; clear hS h
  go_enter Try.func24, Try.ntmps24
  go_wp2
  go_loop [7] (fun I => RelEv n t I) (fun I => n - (intOf I).toNat)
  case atStart => exact ⟨0, by omega, fun i hi => by omega, rfl⟩
  case round =>
    obtain ⟨k, hk, hE, rfl⟩ := hrel
    have HE := Lib.hid hE; clear hE
    by_cases hlt : k < n
    · obtain ⟨B, O, rfl, hc⟩ := HS.out (by omega)
      have ck := hc k hlt
      have c0 := hc 0 (by omega)
      rw [Nat.add_zero] at c0
      have k0 : (k : Int) < (n : Int) := by omega
      have n0 : (0 : Int) < (n : Int) := by omega
      clear hc
      by_cases hz : (t k).size = (t 0).size
      · have tz : (((t k).size : Int) != ((t 0).size : Int)) = false := by simp [hz]
        have tz' : ((t k).size != (t 0).size) = false := by simp [hz]
        have HX : Hid (Ev (k + 1) t) := fun i hi => by
          by_cases e : i = k
          · subst e; exact hz
          · exact HE.out i (by omega)
        clear hz
        generalize t k = tk at ck tz tz'
        generalize t 0 = t0 at c0 tz tz'
        go_wp2
        go_round
        case rel => exact ⟨k + 1, by omega, HX.out, by go_num⟩
        case measure => simp [intOf]; omega
      · have tz : (((t k).size : Int) != ((t 0).size : Int)) = true := by simp; omega
        have tz' : ((t k).size != (t 0).size) = true := by simp [hz]
        clear hz
        generalize t k = tk at ck tz tz'
        generalize t 0 = t0 at c0 tz tz'
        go_wp2
        go_ret
        exact ⟨rfl, rfl⟩
    · obtain rfl : k = n := by omega
      exact absurd HE.out H.out
def RelDn (w : World) (n : Nat) (I : Value) (wr : World) : Prop := ∃ k : Nat, k ≤ n ∧ I = .int .i64 (k : Int) ∧ RowTo w w.heap.size 3 n (fun i => .int .i64 (i : Int)) (.int .i64 0) k wr
/-- The numbers 0 to n - 1, in a row of the call's own. -/
def MadeN (n : Nat) (w : World) (e : Ending) (w' : World) : Prop := ∃ p, e = .returned (.slice p n n) ∧ Ints w' p n (fun i => (i : Int)) ∧ Below w.heap.size w w'
set_option maxRecDepth 100000 in
set_option maxHeartbeats 1000000 in
theorem data_any (n : Nat) (hn : n ≤ 4096) (w : World) : Calls Try.prog 20 #[.int .i64 (n : Int)] w (MadeN n w) := by
  have hmk := run_make_row' (P := Try.prog) 51 3 (.int .i64 0) 8 Try.underlying51 infoI rfl .i64 .i64 n (by omega) (by omega)
  go_enter Try.func20, Try.ntmps20
  go_wp2
  clear hmk
  go_loopw [8] (fun I wr => RelDn w n I wr) (fun I _ => n - (intOf I).toNat)
  case atStart => exact ⟨0, by omega, rfl, RowTo.start w _ n _ _⟩
  case round =>
    obtain ⟨k, hk, rfl, hB⟩ := hrel
    have HB := Lib.hid hB; clear hB
    by_cases hlt : k < n
    · have hc := HB.out.cell hlt
      have hf := HB.out.row.frozen k
      have k0 : (k : Int) < (n : Int) := by omega
      go_wp2
      go_roundw
      case rel => exact ⟨k + 1, by omega, by go_num, HB.out.set rfl⟩
      case measure => simp [intOf]; omega
    · obtain rfl : k = n := by omega
      go_wp2
      go_ret
      exact ⟨_, rfl, fun _ => ⟨w.heap.size, 0, rfl, fun i hi => by rw [Nat.zero_add]; exact HB.out.done.cell hi⟩, HB.out.below⟩
set_option maxHeartbeats 400000 in
theorem sizes_yes (c k n fb TB : Nat) (r : Nat → Nat) (x : Nat → Nat → K) (w : World) (hC : IsC w c k n fb TB r x) :
    Calls Try.prog 17 #[.pointer (some ⟨c, 0, none⟩)] w fun e w' => e = .returned (.tuple #[.int .i64 (k : Int), .int .i64 (n : Int)]) ∧ ∃ m, w' = w.drewN m := by
  have h1 := hC.ck; have h2 := hC.cn
  clear hC
  go_enter Try.func17, Try.ntmps17
  go_wp2
  go_quiet (fail)
  go_wp2
  go_ret2
  exact ⟨rfl, _, rfl⟩
end Go.Proofs.Ytkgfkchdbbeljaa.Cd
