/-
  The sum of products of two lists of bytes: gf's Dot.
-/
import Derived.Test.YtkgfkchdbbeljaaGfN
namespace Go.Proofs.Ytkgfkchdbbeljaa.Gf
open Go.ChangeShapes Go.WideShapes Go.ChangeAt Go.RowKit

/-- The sum of the first k products. -/
def dotN (x y : Nat → Nat) : Nat → Nat
  | 0 => 0
  | k + 1 => dotN x y k ^^^ gm (x k) (y k)
theorem dotN_lt (x y : Nat → Nat) (k : Nat) : dotN x y k < 256 := by
  induction k with
  | zero => simp [dotN]
  | succ k ih => exact xor_lt ih (gm_lt _ _)
/-- The first n places behind an address hold the bytes x. -/
def Bytes (w : World) (b off n : Nat) (x : Nat → Nat) : Prop := ∀ i, i < n → w.cell? ⟨b, off + i, none⟩ = some (.int .u8 (x i : Nat)) ∧ x i < 256
theorem Bytes.drewN {w : World} {b off n : Nat} {x : Nat → Nat} (h : Bytes w b off n x) (m : Nat) : Bytes (w.drewN m) b off n x := h
theorem Bytes.alloc {w : World} {b off n : Nat} {x : Nat → Nat} (h : Bytes w b off n x) (hb : b < w.heap.size) (o : Obj) : Bytes (w.alloc o) b off n x :=
  fun i hi => by rw [World.cell?_alloc_past _ _ _ hb]; exact h i hi
set_option maxHeartbeats 400000 in
theorem dot_unlike (f : Nat) (p q : Option Addr) (n cn m cm : Nat) (w : World) (h : n ≠ m) :
    Calls Try.prog 39 #[.pointer (some ⟨f, 0, none⟩), .slice p n cn, .slice q m cm] w fun e w' => e = .returned (.tuple #[.int .u8 0, .bool false]) ∧ w' = w := by
  have t : ((n : Int) != (m : Int)) = true := by simp; omega
  go_enter Try.func39, Try.ntmps39
  go_wp2
  go_ret2
  exact ⟨rfl, rfl⟩
set_option maxHeartbeats 400000 in
theorem dot_none (f : Nat) (p q : Option Addr) (cn cm : Nat) (w : World) :
    Calls Try.prog 39 #[.pointer (some ⟨f, 0, none⟩), .slice p 0 cn, .slice q 0 cm] w fun e w' => e = .returned (.tuple #[.int .u8 0, .bool true]) ∧ w' = w := by
  go_enter Try.func39, Try.ntmps39
  go_wp2
  go_loop [8, 21] (fun S I => S = .int .u8 0 ∧ I = .int .i64 0) (fun _ _ => 0)
  case atStart => exact ⟨rfl, rfl⟩
  case round =>
    obtain ⟨rfl, rfl⟩ := hrel
    go_wp2
    go_ret2
    exact ⟨rfl, rfl⟩
def RelD (x y : Nat → Nat) (n : Nat) (w : World) (S I : Value) (wr : World) : Prop := ∃ k m : Nat, k ≤ n ∧ S = .int .u8 (dotN x y k : Nat) ∧ I = .int .i64 (k : Int) ∧ wr = w.drewN m
set_option maxRecDepth 100000 in
set_option maxHeartbeats 1000000 in
theorem dot_some (f b c ob oc n cn cm : Nat) (x y : Nat → Nat) (w : World) (hn : n ≤ 4294967296) (hF : IsF w f) (hx : Bytes w b ob n x) (hy : Bytes w c oc n y) :
    Calls Try.prog 39 #[.pointer (some ⟨f, 0, none⟩), .slice (some ⟨b, ob, none⟩) n cn, .slice (some ⟨c, oc, none⟩) n cm] w fun e w' => e = .returned (.tuple #[.int .u8 (dotN x y n : Nat), .bool true]) ∧ ∃ m, w' = w.drewN m := by
  have HF := Lib.hid hF; have HX := Lib.hid hx; have HY := Lib.hid hy
  clear hF hx hy
  go_enter Try.func39, Try.ntmps39
  go_wp2
  go_loopw [8, 21] (fun S I wr => RelD x y n w S I wr) (fun _ I _ => n - (intOf I).toNat)
  case atStart => exact ⟨0, 0, by omega, rfl, rfl, rfl⟩
  case round =>
    obtain ⟨k, m, hk, rfl, rfl, rfl⟩ := hrel
    by_cases hlt : k < n
    · obtain ⟨cx, lx⟩ := (HX.out.drewN m) k hlt
      obtain ⟨cy, ly⟩ := (HY.out.drewN m) k hlt
      have HF1 := Lib.hid (HF.out.drewN m)
      generalize hw : w.drewN m = w1 at *
      have HW := Lib.hid hw; clear hw
      have ls := dotN_lt x y k
      have HS : Hid (dotN x y (k + 1) = dotN x y k ^^^ gm (x k) (y k)) := rfl
      have lg := gm_lt (x k) (y k)
      generalize dotN x y k = s at *
      generalize x k = u at *
      generalize y k = v at *
      have k0 : (k : Int) < (n : Int) := by omega
      go_wp2_with fail
      go_quiet (first | (go_at_call 50; exact Calls.quiet_of (mulN f u v lx ly _ (HF1.out.drewN _))) | (go_at_call 49; exact Calls.quiet_of_same (addN s (gm u v) ls lg _)))
      go_wp2
      go_roundw
      case rel => exact ⟨k + 1, _, by omega, by rw [HS.out], by go_num, by rw [← HW.out, World.drewN_drewN]⟩
      case measure => simp [intOf]; omega
    · obtain rfl : k = n := by omega
      go_wp2
      go_ret2
      exact ⟨rfl, _, rfl⟩
end Go.Proofs.Ytkgfkchdbbeljaa.Gf
