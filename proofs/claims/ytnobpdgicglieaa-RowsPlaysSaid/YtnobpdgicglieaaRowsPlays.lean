/-
  Proved: for every input the law RowsPlays returns true, and leaves its arguments as they were. No condition.
-/
import Derived.Test.YtnobpdgicglieaaRows
import Derived.WalkKit
import Derived.ProofKit
import Derived.OpenShut
import Derived.ShutString
import Derived.ChangeOld
import Derived.Below
import Derived.Test.YtnobpdgicglieaaMxArg
namespace Go.Proofs.Ytnobpdgicglieaa.rowsPlays
open Go.ChangeShapes Go.WideShapes Go.ChangeAt Go.RowKit
open Go.ChangeMaps (open_string shut_string)
set_option linter.unusedVariables false

theorem own : ownKnob Try.prog.godebug = none := by kernel_rfl
theorem laidOut : laidOutB Try.prog = true := by kernel_rfl

open Go.Proofs.Ytnobpdgicglieaa.Gf Go.Proofs.Ytnobpdgicglieaa.Mx
def RelPk1 (x : K) (n : Nat) (X I : Value) : Prop := ∃ k : Nat, k ≤ n ∧ X = .int .i64 ((kp x k).n : Int) ∧ I = .int .i64 (k : Int)
set_option maxHeartbeats 1000000 in
theorem refpowK (x : K) (n : Nat) (hn : n ≤ 4096) (w : World) :
    Calls Try.prog 22 #[.int .i64 (x.n : Int), .int .i64 (n : Int)] w fun e w' => e = .returned (.int .i64 ((kp x n).n : Int)) ∧ w = w' := by
  have lx := x.h
  go_enter Try.func22, Try.ntmps22
  go_wp2
  go_loop [5, 6] (fun X I => RelPk1 x n X I) (fun _ I => n - (intOf I).toNat)
  case atStart => exact ⟨0, by omega, rfl, rfl⟩
  case round =>
    obtain ⟨k, hk, rfl, rfl⟩ := hrel
    by_cases hlt : k < n
    · have HS : Hid ((kp x (k + 1)).n = gm (kp x k).n x.n) := by
        show gm x.n (kp x k).n = _
        rw [gm_comm]
      have lk := (kp x k).h
      generalize (kp x k).n = u at *
      go_wp2_with fail
      refine (refmul_any u x.n lk lx _).mono ?_
      rintro e w' ⟨rfl, rfl⟩
      go_wp2
      go_round
      case rel => exact ⟨k + 1, by omega, by rw [HS.out], by go_num⟩
      case measure => simp [intOf]; omega
    · obtain rfl : k = n := by omega
      go_wp2
      go_ret
      exact ⟨rfl, rfl⟩
theorem refpow_q (i j : Nat) (hi : i < 256) (hj : j ≤ 4096) (w : World) :
    Calls Try.prog 22 #[.int .i64 (i : Int), .int .i64 (j : Int)] w fun e w' => e = .returned (.int .i64 ((kp (kb i) j).n : Int)) ∧ w' = w := by
  have e : (kb i).n = i := Nat.mod_eq_of_lt hi
  have h := refpowK (kb i) j hj w
  rw [e] at h
  exact h.mono fun _ _ ⟨he, hw⟩ => ⟨he, hw.symm⟩
/-- What is known of one argument. -/
structure Arg (z : Mx.MatArg) (w : World) (p : Option Addr) (n : Nat) : Prop where
  inn : z.In w p n
  few : FewP n z.L
theorem Arg.below {z : Mx.MatArg} {w w' : World} {p : Option Addr} {n : Nat} (h : Arg z w p n) (k : Below w.heap.size w w') : Arg z w' p n := ⟨h.inn.below k, h.few⟩
set_option maxRecDepth 100000 in
set_option maxHeartbeats 2000000 in
theorem large0 (p p' : Option Addr) (n cn n' cn' u v : Nat) (z z' : Mx.MatArg) (w : World) (hz : z.In w p n) (hz' : z'.In w p' n') (hf : ¬ FewP n z.L) :
    Calls Try.prog 6 #[.slice p n cn, .slice p' n' cn', .int .u8 (u : Int), .int .u8 (v : Int)] w fun e w' => e = .returned (.bool true) ∧ Below w.heap.size w w' := by
  have HZ := Lib.hid hz; have HZ' := Lib.hid hz'; clear hz hz'
  have HF := Lib.hid hf; clear hf
  go_enter Try.func6, Try.ntmps6
  go_wp2_with fail
  refine (awake_any _).mono ?_
  rintro e w1 ⟨rfl, hb1⟩
  have HB1 := Lib.hid hb1; clear hb1
  go_wp2_with fail
  refine (few_no _ _ _ _ _ _ _ HZ.out.len HZ.out.lens (HZ.out.below HB1.out).rag HF.out).mono ?_
  rintro e w2 ⟨rfl, rfl⟩
  go_wp2_with fail
  refine (awake_any _).mono ?_
  rintro e w3 ⟨rfl, hb3⟩
  have HB3 := Lib.hid hb3; clear hb3
  go_wp2_with fail
  go_ret
  exact ⟨rfl, Below.next HB1.out HB3.out⟩
set_option maxRecDepth 100000 in
set_option maxHeartbeats 2000000 in
theorem large1 (p p' : Option Addr) (n cn n' cn' u v : Nat) (z z' : Mx.MatArg) (w : World) (hz : z.In w p n) (hz' : z'.In w p' n') (hf : FewP n z.L) (hf' : ¬ FewP n' z'.L) :
    Calls Try.prog 6 #[.slice p n cn, .slice p' n' cn', .int .u8 (u : Int), .int .u8 (v : Int)] w fun e w' => e = .returned (.bool true) ∧ Below w.heap.size w w' := by
  have HZ := Lib.hid hz; have HZ' := Lib.hid hz'; clear hz hz'
  have HF := Lib.hid hf; have HF' := Lib.hid hf'; clear hf hf'
  go_enter Try.func6, Try.ntmps6
  go_wp2_with fail
  refine (awake_any _).mono ?_
  rintro e w1 ⟨rfl, hb1⟩
  have HB1 := Lib.hid hb1; clear hb1
  go_wp2_with fail
  refine (few_yes _ _ _ _ _ _ _ (HZ.out.below HB1.out).rag HF.out).mono ?_
  rintro e w2 ⟨rfl, rfl⟩
  go_wp2_with fail
  refine (few_no _ _ _ _ _ _ _ HZ'.out.len HZ'.out.lens (HZ'.out.below HB1.out).rag HF'.out).mono ?_
  rintro e w2 ⟨rfl, rfl⟩
  go_wp2_with fail
  refine (awake_any _).mono ?_
  rintro e w3 ⟨rfl, hb3⟩
  have HB3 := Lib.hid hb3; clear hb3
  go_wp2_with fail
  go_ret
  exact ⟨rfl, Below.next HB1.out HB3.out⟩
set_option maxRecDepth 100000 in
set_option maxHeartbeats 2000000 in
theorem large2 (p p' : Option Addr) (n cn n' cn' u v : Nat) (z z' : Mx.MatArg) (w : World) (hz : z.In w p n) (hz' : z'.In w p' n') (hf : FewP n z.L) (hf' : FewP n' z'.L) (hs : ¬ SmallP n z.L) :
    Calls Try.prog 6 #[.slice p n cn, .slice p' n' cn', .int .u8 (u : Int), .int .u8 (v : Int)] w fun e w' => e = .returned (.bool true) ∧ Below w.heap.size w w' := by
  have HZ := Lib.hid hz; have HZ' := Lib.hid hz'; clear hz hz'
  have HF := Lib.hid hf; have HF' := Lib.hid hf'; have HS := Lib.hid hs; clear hf hf' hs
  go_enter Try.func6, Try.ntmps6
  go_wp2_with fail
  refine (awake_any _).mono ?_
  rintro e w1 ⟨rfl, hb1⟩
  have HB1 := Lib.hid hb1; clear hb1
  go_wp2_with fail
  refine (few_yes _ _ _ _ _ _ _ (HZ.out.below HB1.out).rag HF.out).mono ?_
  rintro e w2 ⟨rfl, rfl⟩
  go_wp2_with fail
  refine (few_yes _ _ _ _ _ _ _ (HZ'.out.below HB1.out).rag HF'.out).mono ?_
  rintro e w2 ⟨rfl, rfl⟩
  go_wp2_with fail
  refine (small_no _ _ _ _ _ _ _ (HZ.out.few HF.out).1 (HZ.out.few HF.out).2 (HZ.out.below HB1.out).rag HS.out).mono ?_
  rintro e w2 ⟨rfl, rfl⟩
  go_wp2_with fail
  refine (awake_any _).mono ?_
  rintro e w3 ⟨rfl, hb3⟩
  have HB3 := Lib.hid hb3; clear hb3
  go_wp2_with fail
  go_ret
  exact ⟨rfl, Below.next HB1.out HB3.out⟩
set_option maxRecDepth 100000 in
set_option maxHeartbeats 2000000 in
theorem large3 (p p' : Option Addr) (n cn n' cn' u v : Nat) (z z' : Mx.MatArg) (w : World) (hz : z.In w p n) (hz' : z'.In w p' n') (hf : FewP n z.L) (hf' : FewP n' z'.L) (hs : SmallP n z.L) (hs' : ¬ SmallP n' z'.L) :
    Calls Try.prog 6 #[.slice p n cn, .slice p' n' cn', .int .u8 (u : Int), .int .u8 (v : Int)] w fun e w' => e = .returned (.bool true) ∧ Below w.heap.size w w' := by
  have HZ := Lib.hid hz; have HZ' := Lib.hid hz'; clear hz hz'
  have HF := Lib.hid hf; have HF' := Lib.hid hf'; have HS := Lib.hid hs; have HS' := Lib.hid hs'; clear hf hf' hs hs'
  go_enter Try.func6, Try.ntmps6
  go_wp2_with fail
  refine (awake_any _).mono ?_
  rintro e w1 ⟨rfl, hb1⟩
  have HB1 := Lib.hid hb1; clear hb1
  go_wp2_with fail
  refine (few_yes _ _ _ _ _ _ _ (HZ.out.below HB1.out).rag HF.out).mono ?_
  rintro e w2 ⟨rfl, rfl⟩
  go_wp2_with fail
  refine (few_yes _ _ _ _ _ _ _ (HZ'.out.below HB1.out).rag HF'.out).mono ?_
  rintro e w2 ⟨rfl, rfl⟩
  go_wp2_with fail
  refine (small_yes _ _ _ _ _ _ _ (HZ.out.below HB1.out).rag HS.out).mono ?_
  rintro e w2 ⟨rfl, rfl⟩
  go_wp2_with fail
  refine (small_no _ _ _ _ _ _ _ (HZ'.out.few HF'.out).1 (HZ'.out.few HF'.out).2 (HZ'.out.below HB1.out).rag HS'.out).mono ?_
  rintro e w2 ⟨rfl, rfl⟩
  go_wp2_with fail
  refine (awake_any _).mono ?_
  rintro e w3 ⟨rfl, hb3⟩
  have HB3 := Lib.hid hb3; clear hb3
  go_wp2_with fail
  go_ret
  exact ⟨rfl, Below.next HB1.out HB3.out⟩
def RelO (n : Nat) (w : World) (I : Value) (wr : World) : Prop := ∃ k q : Nat, k ≤ n ∧ I = .int .i64 (k : Int) ∧ wr = w.drewN q
set_option maxRecDepth 100000 in
set_option maxHeartbeats 2000000 in
theorem unfitA (p p' : Option Addr) (n cn n' cn' u v : Nat) (z z' : Mx.MatArg) (w : World) (hz : z.In w p n) (hz' : z'.In w p' n') (hf : FewP n z.L) (hf' : FewP n' z'.L) (hs : SmallP n z.L) (hs' : SmallP n' z'.L) (hu : u < 256) (hv : v < 256) (hR : ¬ RightP n z.L) :
    Calls Try.prog 6 #[.slice p n cn, .slice p' n' cn', .int .u8 (u : Int), .int .u8 (v : Int)] w fun e w' => e = .returned (.bool true) ∧ Below w.heap.size w w' := by
  have HZ := Lib.hid hz; have HZ' := Lib.hid hz'; have HF := Lib.hid hf; have HF' := Lib.hid hf'; have HS := Lib.hid hs; have HS' := Lib.hid hs'; clear hz hz' hf hf' hs hs'
  have HR := Lib.hid hR; have HU : Hid (¬ RightP n z.L ∨ ¬ RightP n' z'.L ∨ z.L 0 ≠ n') := Or.inl hR; clear hR
  obtain ⟨N, e40, hN⟩ : ∃ N : Nat, (u : Int) % 40 = (N : Int) ∧ N < 40 := ⟨u % 40, by omega, by omega⟩
  obtain ⟨M, e9, hM⟩ : ∃ M : Nat, (v : Int) % 9 = (M : Int) ∧ M < 9 := ⟨v % 9, by omega, by omega⟩
  go_enter Try.func6, Try.ntmps6
  go_wp2_with fail
  refine (awake_any _).mono ?_
  rintro e w1 ⟨rfl, hb1⟩
  have HB1 := Lib.hid hb1; clear hb1
  go_wp2_with fail
  refine (few_yes _ _ _ _ _ _ _ (HZ.out.below HB1.out).rag HF.out).mono ?_
  rintro e w2 ⟨rfl, rfl⟩
  go_wp2_with fail
  refine (few_yes _ _ _ _ _ _ _ (HZ'.out.below HB1.out).rag HF'.out).mono ?_
  rintro e w2 ⟨rfl, rfl⟩
  go_wp2_with fail
  refine (small_yes _ _ _ _ _ _ _ (HZ.out.below HB1.out).rag HS.out).mono ?_
  rintro e w2 ⟨rfl, rfl⟩
  go_wp2_with fail
  refine (small_yes _ _ _ _ _ _ _ (HZ'.out.below HB1.out).rag HS'.out).mono ?_
  rintro e w2 ⟨rfl, rfl⟩
  go_wp2_with fail
  refine (right_no _ _ _ _ _ _ _ (HZ.out.few HF.out).1 (HZ.out.few HF.out).2 (HZ.out.below HB1.out).rag HR.out).mono ?_
  rintro e w2 ⟨rfl, hw2⟩
  obtain rfl : w1 = w2 := hw2.symm
  clear hw2
  go_wp2_with fail
  refine (rright_no _ _ _ _ _ _ _ (HZ.out.few HF.out).1 (HZ.out.few HF.out).2 (HZ.out.below HB1.out).rag HR.out).mono ?_
  rintro e w2 ⟨rfl, q2, hq2⟩
  have HB2 : Hid (Below w.heap.size w w2) := by rw [hq2]; exact below_drewN HB1.out q2
  clear hq2
  go_wp2_with fail
  by_cases hfit : 1 ≤ N ∧ N ≤ 32 ∧ 1 ≤ M
  · obtain ⟨n1, n2, m1⟩ := hfit
    refine (powers_yes N M n1 n2 m1 (by omega) _).mono ?_
    rintro e w3 ⟨B3, r3, rfl, ho3, hb3⟩
    have HO3 := Lib.hid ho3.mat; have HB3 := Lib.hid (Below.next HB2.out hb3); clear ho3 hb3
    go_wp2_with fail
    go_loopw [11] (fun I wr => RelO N w3 I wr) (fun I _ => N - (intOf I).toNat)
    case atStart => exact ⟨0, 0, by omega, rfl, rfl⟩
    case round =>
      obtain ⟨k, q, hk, rfl, hw⟩ := hrel
      have HW := Lib.hid hw; clear hw
      have HO4 : Hid (Mat wr B3 0 N M r3 (fun _ => 0) (fun _ => M) (fun i j => kp (kb i) j)) := by rw [HW.out]; exact HO3.out.drewN q
      by_cases hlt : k < N
      · have k0 : (k : Int) < (N : Int) := by omega
        have kd : decide ((k : Int) < (N : Int)) = true := by simp; omega
        go_wp2_with fail
        generalize wr = wo at *
        go_loopw [12] (fun J wi => RelO M wo J wi) (fun J _ => M - (intOf J).toNat)
        case atStart => exact ⟨0, 0, by omega, rfl, rfl⟩
        case round =>
          obtain ⟨j, q2, hj, rfl, hw⟩ := hrel
          have HV := Lib.hid hw; clear hw
          have HO5 : Hid (Mat wr B3 0 N M r3 (fun _ => 0) (fun _ => M) (fun i j => kp (kb i) j)) := by rw [HV.out]; exact HO4.out.drewN q2
          have ct := HO5.out.top k hlt
          rw [Nat.zero_add] at ct
          by_cases hll : j < M
          · have j0 : (j : Int) < (M : Int) := by omega
            have cr := HO5.out.row k hlt j hll
            rw [Nat.zero_add] at cr
            have HP : Hid (∀ wx, Calls Try.prog 22 #[.int .i64 (k : Int), .int .i64 (j : Int)] wx fun e w' => e = .returned (.int .i64 ((kp (kb k) j).n : Int)) ∧ w' = wx) := fun wx => refpow_q k j (by omega) (by omega) wx
            have lk := (kp (kb k) j).h
            generalize (kp (kb k) j).n = s at *
            go_wp2_with fail
            go_quiet ((go_at_call 22; exact Calls.quiet_of_same (HP.out _)))
            go_wp2
            go_roundw
            case rel => exact ⟨j + 1, _, by omega, by go_num, by rw [HV.out, World.drewN_drewN]⟩
            case measure => simp [intOf]; omega
          · obtain rfl : j = M := by omega
            go_wp2
            go_roundw
            case rel => exact ⟨k + 1, _, by omega, by go_num, by rw [HV.out, HW.out, World.drewN_drewN]⟩
            case measure => simp [intOf]; omega
      · obtain rfl : k = N := by omega
        have kd : decide ((k : Int) < (k : Int)) = false := by simp
        have ct0 := HO4.out.top0 (by omega)
        have n0 : (0 : Int) < (k : Int) := by omega
        have HBc : Hid (Below w.heap.size w wr) := by rw [HW.out]; exact below_drewN HB3.out q
        clear HO3 HB3 HO4 HW
        generalize wr = wc at *
        go_wp2_with fail
        clear ct0
        have HZc := Lib.hid (HZ.out.below HBc.out); have HZc' := Lib.hid (HZ'.out.below HBc.out)
        refine (mul_no _ _ _ _ _ _ _ _ _ _ _ _ _ (HZ.out.few HF.out).1 (HZ.out.few HF.out).2 (HZ'.out.few HF'.out).1 (HZ'.out.few HF'.out).2 HZc.out.rag HZc'.out.rag HU.out).mono ?_
        rintro e w5 ⟨rfl, hb5⟩
        have HB5 := Lib.hid (Below.next HBc.out hb5); clear hb5
        go_wp2_with fail
        refine (rright_no _ _ _ _ _ _ _ (HZ.out.few HF.out).1 (HZ.out.few HF.out).2 (HZ.out.below HB5.out).rag HR.out).mono ?_
        rintro e w6 ⟨rfl, qw6, hqw6⟩
        have HB6 : Hid (Below w.heap.size w w6) := by rw [hqw6]; exact below_drewN HB5.out qw6
        clear hqw6
        go_wp2_with fail
        go_ret
        exact ⟨rfl, HB6.out⟩
  · have HFi := Lib.hid hfit; clear hfit
    refine (powers_no _ _ (by have := HFi.out; omega) _).mono ?_
    rintro e wc ⟨rfl, hwc⟩
    have HBc : Hid (Below w.heap.size w wc) := by rw [hwc]; exact HB2.out
    clear hwc
    go_wp2_with fail
    go_loop [11] (fun I => I = .int .i64 0) (fun _ => 0)
    case atStart => rfl
    case round =>
      obtain rfl := hrel
      go_wp2_with fail
      have HZc := Lib.hid (HZ.out.below HBc.out); have HZc' := Lib.hid (HZ'.out.below HBc.out)
      refine (mul_no _ _ _ _ _ _ _ _ _ _ _ _ _ (HZ.out.few HF.out).1 (HZ.out.few HF.out).2 (HZ'.out.few HF'.out).1 (HZ'.out.few HF'.out).2 HZc.out.rag HZc'.out.rag HU.out).mono ?_
      rintro e w5 ⟨rfl, hb5⟩
      have HB5 := Lib.hid (Below.next HBc.out hb5); clear hb5
      go_wp2_with fail
      refine (rright_no _ _ _ _ _ _ _ (HZ.out.few HF.out).1 (HZ.out.few HF.out).2 (HZ.out.below HB5.out).rag HR.out).mono ?_
      rintro e w6 ⟨rfl, qw6, hqw6⟩
      have HB6 : Hid (Below w.heap.size w w6) := by rw [hqw6]; exact below_drewN HB5.out qw6
      clear hqw6
      go_wp2_with fail
      go_ret
      exact ⟨rfl, HB6.out⟩
set_option maxRecDepth 100000 in
set_option maxHeartbeats 2000000 in
theorem unfitB (p p' : Option Addr) (n cn n' cn' u v : Nat) (z z' : Mx.MatArg) (w : World) (hz : z.In w p n) (hz' : z'.In w p' n') (hf : FewP n z.L) (hf' : FewP n' z'.L) (hs : SmallP n z.L) (hs' : SmallP n' z'.L) (hu : u < 256) (hv : v < 256) (hR : RightP n z.L) (hR' : ¬ RightP n' z'.L) :
    Calls Try.prog 6 #[.slice p n cn, .slice p' n' cn', .int .u8 (u : Int), .int .u8 (v : Int)] w fun e w' => e = .returned (.bool true) ∧ Below w.heap.size w w' := by
  have HZ := Lib.hid hz; have HZ' := Lib.hid hz'; have HF := Lib.hid hf; have HF' := Lib.hid hf'; have HS := Lib.hid hs; have HS' := Lib.hid hs'; clear hz hz' hf hf' hs hs'
  have HR := Lib.hid hR; have HR' := Lib.hid hR'; have HU : Hid (¬ RightP n z.L ∨ ¬ RightP n' z'.L ∨ z.L 0 ≠ n') := Or.inr (Or.inl hR'); clear hR hR'
  obtain ⟨N, e40, hN⟩ : ∃ N : Nat, (u : Int) % 40 = (N : Int) ∧ N < 40 := ⟨u % 40, by omega, by omega⟩
  obtain ⟨M, e9, hM⟩ : ∃ M : Nat, (v : Int) % 9 = (M : Int) ∧ M < 9 := ⟨v % 9, by omega, by omega⟩
  go_enter Try.func6, Try.ntmps6
  go_wp2_with fail
  refine (awake_any _).mono ?_
  rintro e w1 ⟨rfl, hb1⟩
  have HB1 := Lib.hid hb1; clear hb1
  go_wp2_with fail
  refine (few_yes _ _ _ _ _ _ _ (HZ.out.below HB1.out).rag HF.out).mono ?_
  rintro e w2 ⟨rfl, rfl⟩
  go_wp2_with fail
  refine (few_yes _ _ _ _ _ _ _ (HZ'.out.below HB1.out).rag HF'.out).mono ?_
  rintro e w2 ⟨rfl, rfl⟩
  go_wp2_with fail
  refine (small_yes _ _ _ _ _ _ _ (HZ.out.below HB1.out).rag HS.out).mono ?_
  rintro e w2 ⟨rfl, rfl⟩
  go_wp2_with fail
  refine (small_yes _ _ _ _ _ _ _ (HZ'.out.below HB1.out).rag HS'.out).mono ?_
  rintro e w2 ⟨rfl, rfl⟩
  go_wp2_with fail
  refine (right_yes _ _ _ _ _ _ _ (HZ.out.below HB1.out).rag HR.out).mono ?_
  rintro e w2 ⟨rfl, hw2⟩
  obtain rfl : w1 = w2 := hw2.symm
  clear hw2
  go_wp2_with fail
  refine (rright_yes _ _ _ _ _ _ _ (HZ.out.below HB1.out).rag HR.out).mono ?_
  rintro e w2 ⟨rfl, q2, hq2⟩
  have HB2 : Hid (Below w.heap.size w w2) := by rw [hq2]; exact below_drewN HB1.out q2
  clear hq2
  go_wp2_with fail
  by_cases hfit : 1 ≤ N ∧ N ≤ 32 ∧ 1 ≤ M
  · obtain ⟨n1, n2, m1⟩ := hfit
    refine (powers_yes N M n1 n2 m1 (by omega) _).mono ?_
    rintro e w3 ⟨B3, r3, rfl, ho3, hb3⟩
    have HO3 := Lib.hid ho3.mat; have HB3 := Lib.hid (Below.next HB2.out hb3); clear ho3 hb3
    go_wp2_with fail
    go_loopw [11] (fun I wr => RelO N w3 I wr) (fun I _ => N - (intOf I).toNat)
    case atStart => exact ⟨0, 0, by omega, rfl, rfl⟩
    case round =>
      obtain ⟨k, q, hk, rfl, hw⟩ := hrel
      have HW := Lib.hid hw; clear hw
      have HO4 : Hid (Mat wr B3 0 N M r3 (fun _ => 0) (fun _ => M) (fun i j => kp (kb i) j)) := by rw [HW.out]; exact HO3.out.drewN q
      by_cases hlt : k < N
      · have k0 : (k : Int) < (N : Int) := by omega
        have kd : decide ((k : Int) < (N : Int)) = true := by simp; omega
        go_wp2_with fail
        generalize wr = wo at *
        go_loopw [12] (fun J wi => RelO M wo J wi) (fun J _ => M - (intOf J).toNat)
        case atStart => exact ⟨0, 0, by omega, rfl, rfl⟩
        case round =>
          obtain ⟨j, q2, hj, rfl, hw⟩ := hrel
          have HV := Lib.hid hw; clear hw
          have HO5 : Hid (Mat wr B3 0 N M r3 (fun _ => 0) (fun _ => M) (fun i j => kp (kb i) j)) := by rw [HV.out]; exact HO4.out.drewN q2
          have ct := HO5.out.top k hlt
          rw [Nat.zero_add] at ct
          by_cases hll : j < M
          · have j0 : (j : Int) < (M : Int) := by omega
            have cr := HO5.out.row k hlt j hll
            rw [Nat.zero_add] at cr
            have HP : Hid (∀ wx, Calls Try.prog 22 #[.int .i64 (k : Int), .int .i64 (j : Int)] wx fun e w' => e = .returned (.int .i64 ((kp (kb k) j).n : Int)) ∧ w' = wx) := fun wx => refpow_q k j (by omega) (by omega) wx
            have lk := (kp (kb k) j).h
            generalize (kp (kb k) j).n = s at *
            go_wp2_with fail
            go_quiet ((go_at_call 22; exact Calls.quiet_of_same (HP.out _)))
            go_wp2
            go_roundw
            case rel => exact ⟨j + 1, _, by omega, by go_num, by rw [HV.out, World.drewN_drewN]⟩
            case measure => simp [intOf]; omega
          · obtain rfl : j = M := by omega
            go_wp2
            go_roundw
            case rel => exact ⟨k + 1, _, by omega, by go_num, by rw [HV.out, HW.out, World.drewN_drewN]⟩
            case measure => simp [intOf]; omega
      · obtain rfl : k = N := by omega
        have kd : decide ((k : Int) < (k : Int)) = false := by simp
        have ct0 := HO4.out.top0 (by omega)
        have n0 : (0 : Int) < (k : Int) := by omega
        have HBc : Hid (Below w.heap.size w wr) := by rw [HW.out]; exact below_drewN HB3.out q
        clear HO3 HB3 HO4 HW
        generalize wr = wc at *
        go_wp2_with fail
        clear ct0
        have HZc := Lib.hid (HZ.out.below HBc.out); have HZc' := Lib.hid (HZ'.out.below HBc.out)
        refine (mul_no _ _ _ _ _ _ _ _ _ _ _ _ _ (HZ.out.few HF.out).1 (HZ.out.few HF.out).2 (HZ'.out.few HF'.out).1 (HZ'.out.few HF'.out).2 HZc.out.rag HZc'.out.rag HU.out).mono ?_
        rintro e w5 ⟨rfl, hb5⟩
        have HB5 := Lib.hid (Below.next HBc.out hb5); clear hb5
        go_wp2_with fail
        refine (rright_yes _ _ _ _ _ _ _ (HZ.out.below HB5.out).rag HR.out).mono ?_
        rintro e w6 ⟨rfl, qw6, hqw6⟩
        have HB6 : Hid (Below w.heap.size w w6) := by rw [hqw6]; exact below_drewN HB5.out qw6
        clear hqw6
        go_wp2_with fail
        refine (rright_no _ _ _ _ _ _ _ (HZ'.out.few HF'.out).1 (HZ'.out.few HF'.out).2 (HZ'.out.below HB6.out).rag HR'.out).mono ?_
        rintro e w7 ⟨rfl, qw7, hqw7⟩
        have HB7 : Hid (Below w.heap.size w w7) := by rw [hqw7]; exact below_drewN HB6.out qw7
        clear hqw7
        go_wp2_with fail
        go_ret
        exact ⟨rfl, HB7.out⟩
  · have HFi := Lib.hid hfit; clear hfit
    refine (powers_no _ _ (by have := HFi.out; omega) _).mono ?_
    rintro e wc ⟨rfl, hwc⟩
    have HBc : Hid (Below w.heap.size w wc) := by rw [hwc]; exact HB2.out
    clear hwc
    go_wp2_with fail
    go_loop [11] (fun I => I = .int .i64 0) (fun _ => 0)
    case atStart => rfl
    case round =>
      obtain rfl := hrel
      go_wp2_with fail
      have HZc := Lib.hid (HZ.out.below HBc.out); have HZc' := Lib.hid (HZ'.out.below HBc.out)
      refine (mul_no _ _ _ _ _ _ _ _ _ _ _ _ _ (HZ.out.few HF.out).1 (HZ.out.few HF.out).2 (HZ'.out.few HF'.out).1 (HZ'.out.few HF'.out).2 HZc.out.rag HZc'.out.rag HU.out).mono ?_
      rintro e w5 ⟨rfl, hb5⟩
      have HB5 := Lib.hid (Below.next HBc.out hb5); clear hb5
      go_wp2_with fail
      refine (rright_yes _ _ _ _ _ _ _ (HZ.out.below HB5.out).rag HR.out).mono ?_
      rintro e w6 ⟨rfl, qw6, hqw6⟩
      have HB6 : Hid (Below w.heap.size w w6) := by rw [hqw6]; exact below_drewN HB5.out qw6
      clear hqw6
      go_wp2_with fail
      refine (rright_no _ _ _ _ _ _ _ (HZ'.out.few HF'.out).1 (HZ'.out.few HF'.out).2 (HZ'.out.below HB6.out).rag HR'.out).mono ?_
      rintro e w7 ⟨rfl, qw7, hqw7⟩
      have HB7 : Hid (Below w.heap.size w w7) := by rw [hqw7]; exact below_drewN HB6.out qw7
      clear hqw7
      go_wp2_with fail
      go_ret
      exact ⟨rfl, HB7.out⟩
set_option maxRecDepth 100000 in
set_option maxHeartbeats 2000000 in
theorem unfitC (P O : Nat) (p' : Option Addr) (n cn n' cn' u v : Nat) (z z' : Mx.MatArg) (w : World) (hz : z.In w (some ⟨P, O, none⟩) n) (hz' : z'.In w p' n') (hf : FewP n z.L) (hf' : FewP n' z'.L) (hs : SmallP n z.L) (hs' : SmallP n' z'.L) (hu : u < 256) (hv : v < 256) (hR : RightP n z.L) (hR' : RightP n' z'.L) (hN : z.L 0 ≠ n') :
    Calls Try.prog 6 #[.slice (some ⟨P, O, none⟩) n cn, .slice p' n' cn', .int .u8 (u : Int), .int .u8 (v : Int)] w fun e w' => e = .returned (.bool true) ∧ Below w.heap.size w w' := by
  have HZ := Lib.hid hz; have HZ' := Lib.hid hz'; have HF := Lib.hid hf; have HF' := Lib.hid hf'; have HS := Lib.hid hs; have HS' := Lib.hid hs'; clear hz hz' hf hf' hs hs'
  have HR := Lib.hid hR; have HR' := Lib.hid hR'; have HN := Lib.hid hN; have HU : Hid (¬ RightP n z.L ∨ ¬ RightP n' z'.L ∨ z.L 0 ≠ n') := Or.inr (Or.inr hN); clear hR hR' hN
  obtain ⟨N, e40, hN⟩ : ∃ N : Nat, (u : Int) % 40 = (N : Int) ∧ N < 40 := ⟨u % 40, by omega, by omega⟩
  obtain ⟨M, e9, hM⟩ : ∃ M : Nat, (v : Int) % 9 = (M : Int) ∧ M < 9 := ⟨v % 9, by omega, by omega⟩
  go_enter Try.func6, Try.ntmps6
  go_wp2_with fail
  refine (awake_any _).mono ?_
  rintro e w1 ⟨rfl, hb1⟩
  have HB1 := Lib.hid hb1; clear hb1
  go_wp2_with fail
  refine (few_yes _ _ _ _ _ _ _ (HZ.out.below HB1.out).rag HF.out).mono ?_
  rintro e w2 ⟨rfl, rfl⟩
  go_wp2_with fail
  refine (few_yes _ _ _ _ _ _ _ (HZ'.out.below HB1.out).rag HF'.out).mono ?_
  rintro e w2 ⟨rfl, rfl⟩
  go_wp2_with fail
  refine (small_yes _ _ _ _ _ _ _ (HZ.out.below HB1.out).rag HS.out).mono ?_
  rintro e w2 ⟨rfl, rfl⟩
  go_wp2_with fail
  refine (small_yes _ _ _ _ _ _ _ (HZ'.out.below HB1.out).rag HS'.out).mono ?_
  rintro e w2 ⟨rfl, rfl⟩
  go_wp2_with fail
  refine (right_yes _ _ _ _ _ _ _ (HZ.out.below HB1.out).rag HR.out).mono ?_
  rintro e w2 ⟨rfl, hw2⟩
  obtain rfl : w1 = w2 := hw2.symm
  clear hw2
  go_wp2_with fail
  refine (rright_yes _ _ _ _ _ _ _ (HZ.out.below HB1.out).rag HR.out).mono ?_
  rintro e w2 ⟨rfl, q2, hq2⟩
  have HB2 : Hid (Below w.heap.size w w2) := by rw [hq2]; exact below_drewN HB1.out q2
  clear hq2
  go_wp2_with fail
  by_cases hfit : 1 ≤ N ∧ N ≤ 32 ∧ 1 ≤ M
  · obtain ⟨n1, n2, m1⟩ := hfit
    refine (powers_yes N M n1 n2 m1 (by omega) _).mono ?_
    rintro e w3 ⟨B3, r3, rfl, ho3, hb3⟩
    have HO3 := Lib.hid ho3.mat; have HB3 := Lib.hid (Below.next HB2.out hb3); clear ho3 hb3
    go_wp2_with fail
    go_loopw [11] (fun I wr => RelO N w3 I wr) (fun I _ => N - (intOf I).toNat)
    case atStart => exact ⟨0, 0, by omega, rfl, rfl⟩
    case round =>
      obtain ⟨k, q, hk, rfl, hw⟩ := hrel
      have HW := Lib.hid hw; clear hw
      have HO4 : Hid (Mat wr B3 0 N M r3 (fun _ => 0) (fun _ => M) (fun i j => kp (kb i) j)) := by rw [HW.out]; exact HO3.out.drewN q
      by_cases hlt : k < N
      · have k0 : (k : Int) < (N : Int) := by omega
        have kd : decide ((k : Int) < (N : Int)) = true := by simp; omega
        go_wp2_with fail
        generalize wr = wo at *
        go_loopw [12] (fun J wi => RelO M wo J wi) (fun J _ => M - (intOf J).toNat)
        case atStart => exact ⟨0, 0, by omega, rfl, rfl⟩
        case round =>
          obtain ⟨j, q2, hj, rfl, hw⟩ := hrel
          have HV := Lib.hid hw; clear hw
          have HO5 : Hid (Mat wr B3 0 N M r3 (fun _ => 0) (fun _ => M) (fun i j => kp (kb i) j)) := by rw [HV.out]; exact HO4.out.drewN q2
          have ct := HO5.out.top k hlt
          rw [Nat.zero_add] at ct
          by_cases hll : j < M
          · have j0 : (j : Int) < (M : Int) := by omega
            have cr := HO5.out.row k hlt j hll
            rw [Nat.zero_add] at cr
            have HP : Hid (∀ wx, Calls Try.prog 22 #[.int .i64 (k : Int), .int .i64 (j : Int)] wx fun e w' => e = .returned (.int .i64 ((kp (kb k) j).n : Int)) ∧ w' = wx) := fun wx => refpow_q k j (by omega) (by omega) wx
            have lk := (kp (kb k) j).h
            generalize (kp (kb k) j).n = s at *
            go_wp2_with fail
            go_quiet ((go_at_call 22; exact Calls.quiet_of_same (HP.out _)))
            go_wp2
            go_roundw
            case rel => exact ⟨j + 1, _, by omega, by go_num, by rw [HV.out, World.drewN_drewN]⟩
            case measure => simp [intOf]; omega
          · obtain rfl : j = M := by omega
            go_wp2
            go_roundw
            case rel => exact ⟨k + 1, _, by omega, by go_num, by rw [HV.out, HW.out, World.drewN_drewN]⟩
            case measure => simp [intOf]; omega
      · obtain rfl : k = N := by omega
        have kd : decide ((k : Int) < (k : Int)) = false := by simp
        have ct0 := HO4.out.top0 (by omega)
        have n0 : (0 : Int) < (k : Int) := by omega
        have HBc : Hid (Below w.heap.size w wr) := by rw [HW.out]; exact below_drewN HB3.out q
        clear HO3 HB3 HO4 HW
        generalize wr = wc at *
        go_wp2_with fail
        clear ct0
        have HZc := Lib.hid (HZ.out.below HBc.out); have HZc' := Lib.hid (HZ'.out.below HBc.out)
        refine (mul_no _ _ _ _ _ _ _ _ _ _ _ _ _ (HZ.out.few HF.out).1 (HZ.out.few HF.out).2 (HZ'.out.few HF'.out).1 (HZ'.out.few HF'.out).2 HZc.out.rag HZc'.out.rag HU.out).mono ?_
        rintro e w5 ⟨rfl, hb5⟩
        have HB5 := Lib.hid (Below.next HBc.out hb5); clear hb5
        go_wp2_with fail
        refine (rright_yes _ _ _ _ _ _ _ (HZ.out.below HB5.out).rag HR.out).mono ?_
        rintro e w6 ⟨rfl, qw6, hqw6⟩
        have HB6 : Hid (Below w.heap.size w w6) := by rw [hqw6]; exact below_drewN HB5.out qw6
        clear hqw6
        go_wp2_with fail
        refine (rright_yes _ _ _ _ _ _ _ (HZ'.out.below HB6.out).rag HR'.out).mono ?_
        rintro e w7 ⟨rfl, qw7, hqw7⟩
        have HB7 : Hid (Below w.heap.size w w7) := by rw [hqw7]; exact below_drewN HB6.out qw7
        clear hqw7
        have ca0 : w7.cell? ⟨P, O, none⟩ = some (.slice (z.A 0) (z.L 0) (z.C 0)) := by
          obtain ⟨P', O', e, hc⟩ := (HZ.out.below HB7.out).rag (by have := HR.out.1; omega)
          injection e with e
          injection e with e1 e2
          subst e1; subst e2
          simpa using hc 0 (by have := HR.out.1; omega)
        have nn0 : (0 : Int) < (n : Int) := by have := HR.out.1; omega
        have l32 : z.L 0 ≤ 32 := HR.out.2.2.2.1
        have t1 : ((z.L 0 : Int) != (n' : Int)) = true := by have := HN.out; simp; omega
        have t1' : (z.L 0 != n') = true := by have := HN.out; simpa using this
        generalize z.L 0 = l at ca0 t1 t1' l32
        go_wp2_with fail
        go_ret
        exact ⟨rfl, HB7.out⟩
  · have HFi := Lib.hid hfit; clear hfit
    refine (powers_no _ _ (by have := HFi.out; omega) _).mono ?_
    rintro e wc ⟨rfl, hwc⟩
    have HBc : Hid (Below w.heap.size w wc) := by rw [hwc]; exact HB2.out
    clear hwc
    go_wp2_with fail
    go_loop [11] (fun I => I = .int .i64 0) (fun _ => 0)
    case atStart => rfl
    case round =>
      obtain rfl := hrel
      go_wp2_with fail
      have HZc := Lib.hid (HZ.out.below HBc.out); have HZc' := Lib.hid (HZ'.out.below HBc.out)
      refine (mul_no _ _ _ _ _ _ _ _ _ _ _ _ _ (HZ.out.few HF.out).1 (HZ.out.few HF.out).2 (HZ'.out.few HF'.out).1 (HZ'.out.few HF'.out).2 HZc.out.rag HZc'.out.rag HU.out).mono ?_
      rintro e w5 ⟨rfl, hb5⟩
      have HB5 := Lib.hid (Below.next HBc.out hb5); clear hb5
      go_wp2_with fail
      refine (rright_yes _ _ _ _ _ _ _ (HZ.out.below HB5.out).rag HR.out).mono ?_
      rintro e w6 ⟨rfl, qw6, hqw6⟩
      have HB6 : Hid (Below w.heap.size w w6) := by rw [hqw6]; exact below_drewN HB5.out qw6
      clear hqw6
      go_wp2_with fail
      refine (rright_yes _ _ _ _ _ _ _ (HZ'.out.below HB6.out).rag HR'.out).mono ?_
      rintro e w7 ⟨rfl, qw7, hqw7⟩
      have HB7 : Hid (Below w.heap.size w w7) := by rw [hqw7]; exact below_drewN HB6.out qw7
      clear hqw7
      have ca0 : w7.cell? ⟨P, O, none⟩ = some (.slice (z.A 0) (z.L 0) (z.C 0)) := by
        obtain ⟨P', O', e, hc⟩ := (HZ.out.below HB7.out).rag (by have := HR.out.1; omega)
        injection e with e
        injection e with e1 e2
        subst e1; subst e2
        simpa using hc 0 (by have := HR.out.1; omega)
      have nn0 : (0 : Int) < (n : Int) := by have := HR.out.1; omega
      have l32 : z.L 0 ≤ 32 := HR.out.2.2.2.1
      have t1 : ((z.L 0 : Int) != (n' : Int)) = true := by have := HN.out; simp; omega
      have t1' : (z.L 0 != n') = true := by have := HN.out; simpa using this
      generalize z.L 0 = l at ca0 t1 t1' l32
      go_wp2_with fail
      go_ret
      exact ⟨rfl, HB7.out⟩
set_option maxRecDepth 100000 in
set_option maxHeartbeats 2000000 in
theorem fit (P O P' O' n l m cn cn' u v : Nat) (z z' : Mx.MatArg) (w : World) (hz : z.In w (some ⟨P, O, none⟩) n) (hz' : z'.In w (some ⟨P', O', none⟩) l) (hf : FewP n z.L) (hf' : FewP l z'.L) (hs : SmallP n z.L) (hs' : SmallP l z'.L) (hu : u < 256) (hv : v < 256) (hR : RightP n z.L) (hR' : RightP l z'.L) (hn : 1 ≤ n ∧ n ≤ 32) (hl : 1 ≤ l ∧ l ≤ 32) (hm : 1 ≤ m ∧ m ≤ 32) (hX : Mat w P O n l z.b z.o z.C z.x) (hX' : Mat w P' O' l m z'.b z'.o z'.C z'.x) :
    Calls Try.prog 6 #[.slice (some ⟨P, O, none⟩) n cn, .slice (some ⟨P', O', none⟩) l cn', .int .u8 (u : Int), .int .u8 (v : Int)] w fun e w' => e = .returned (.bool true) ∧ Below w.heap.size w w' := by
  have HZ := Lib.hid hz; have HZ' := Lib.hid hz'; have HF := Lib.hid hf; have HF' := Lib.hid hf'; have HS := Lib.hid hs; have HS' := Lib.hid hs'; clear hz hz' hf hf' hs hs'
  have HR := Lib.hid hR; have HR' := Lib.hid hR'; have HX := Lib.hid hX; have HX' := Lib.hid hX'; have Hn := Lib.hid hn; have Hl := Lib.hid hl; have Hm := Lib.hid hm; clear hR hR' hX hX' hn hl hm
  obtain ⟨N, e40, hN⟩ : ∃ N : Nat, (u : Int) % 40 = (N : Int) ∧ N < 40 := ⟨u % 40, by omega, by omega⟩
  obtain ⟨M, e9, hM⟩ : ∃ M : Nat, (v : Int) % 9 = (M : Int) ∧ M < 9 := ⟨v % 9, by omega, by omega⟩
  go_enter Try.func6, Try.ntmps6
  go_wp2_with fail
  refine (awake_any _).mono ?_
  rintro e w1 ⟨rfl, hb1⟩
  have HB1 := Lib.hid hb1; clear hb1
  go_wp2_with fail
  refine (few_yes _ _ _ _ _ _ _ (HZ.out.below HB1.out).rag HF.out).mono ?_
  rintro e w2 ⟨rfl, rfl⟩
  go_wp2_with fail
  refine (few_yes _ _ _ _ _ _ _ (HZ'.out.below HB1.out).rag HF'.out).mono ?_
  rintro e w2 ⟨rfl, rfl⟩
  go_wp2_with fail
  refine (small_yes _ _ _ _ _ _ _ (HZ.out.below HB1.out).rag HS.out).mono ?_
  rintro e w2 ⟨rfl, rfl⟩
  go_wp2_with fail
  refine (small_yes _ _ _ _ _ _ _ (HZ'.out.below HB1.out).rag HS'.out).mono ?_
  rintro e w2 ⟨rfl, rfl⟩
  go_wp2_with fail
  refine (right_yes _ _ _ _ _ _ _ (HZ.out.below HB1.out).rag HR.out).mono ?_
  rintro e w2 ⟨rfl, hw2⟩
  obtain rfl : w1 = w2 := hw2.symm
  clear hw2
  go_wp2_with fail
  refine (rright_yes _ _ _ _ _ _ _ (HZ.out.below HB1.out).rag HR.out).mono ?_
  rintro e w2 ⟨rfl, q2, hq2⟩
  have HB2 : Hid (Below w.heap.size w w2) := by rw [hq2]; exact below_drewN HB1.out q2
  clear hq2
  go_wp2_with fail
  by_cases hfit : 1 ≤ N ∧ N ≤ 32 ∧ 1 ≤ M
  · obtain ⟨n1, n2, m1⟩ := hfit
    refine (powers_yes N M n1 n2 m1 (by omega) _).mono ?_
    rintro e w3 ⟨B3, r3, rfl, ho3, hb3⟩
    have HO3 := Lib.hid ho3.mat; have HB3 := Lib.hid (Below.next HB2.out hb3); clear ho3 hb3
    go_wp2_with fail
    go_loopw [11] (fun I wr => RelO N w3 I wr) (fun I _ => N - (intOf I).toNat)
    case atStart => exact ⟨0, 0, by omega, rfl, rfl⟩
    case round =>
      obtain ⟨k, q, hk, rfl, hw⟩ := hrel
      have HW := Lib.hid hw; clear hw
      have HO4 : Hid (Mat wr B3 0 N M r3 (fun _ => 0) (fun _ => M) (fun i j => kp (kb i) j)) := by rw [HW.out]; exact HO3.out.drewN q
      by_cases hlt : k < N
      · have k0 : (k : Int) < (N : Int) := by omega
        have kd : decide ((k : Int) < (N : Int)) = true := by simp; omega
        go_wp2_with fail
        generalize wr = wo at *
        go_loopw [12] (fun J wi => RelO M wo J wi) (fun J _ => M - (intOf J).toNat)
        case atStart => exact ⟨0, 0, by omega, rfl, rfl⟩
        case round =>
          obtain ⟨j, q2, hj, rfl, hw⟩ := hrel
          have HV := Lib.hid hw; clear hw
          have HO5 : Hid (Mat wr B3 0 N M r3 (fun _ => 0) (fun _ => M) (fun i j => kp (kb i) j)) := by rw [HV.out]; exact HO4.out.drewN q2
          have ct := HO5.out.top k hlt
          rw [Nat.zero_add] at ct
          by_cases hll : j < M
          · have j0 : (j : Int) < (M : Int) := by omega
            have cr := HO5.out.row k hlt j hll
            rw [Nat.zero_add] at cr
            have HP : Hid (∀ wx, Calls Try.prog 22 #[.int .i64 (k : Int), .int .i64 (j : Int)] wx fun e w' => e = .returned (.int .i64 ((kp (kb k) j).n : Int)) ∧ w' = wx) := fun wx => refpow_q k j (by omega) (by omega) wx
            have lk := (kp (kb k) j).h
            generalize (kp (kb k) j).n = s at *
            go_wp2_with fail
            go_quiet ((go_at_call 22; exact Calls.quiet_of_same (HP.out _)))
            go_wp2
            go_roundw
            case rel => exact ⟨j + 1, _, by omega, by go_num, by rw [HV.out, World.drewN_drewN]⟩
            case measure => simp [intOf]; omega
          · obtain rfl : j = M := by omega
            go_wp2
            go_roundw
            case rel => exact ⟨k + 1, _, by omega, by go_num, by rw [HV.out, HW.out, World.drewN_drewN]⟩
            case measure => simp [intOf]; omega
      · obtain rfl : k = N := by omega
        have kd : decide ((k : Int) < (k : Int)) = false := by simp
        have ct0 := HO4.out.top0 (by omega)
        have n0 : (0 : Int) < (k : Int) := by omega
        have HBc : Hid (Below w.heap.size w wr) := by rw [HW.out]; exact below_drewN HB3.out q
        clear HO3 HB3 HO4 HW
        generalize wr = wc at *
        go_wp2_with fail
        clear ct0
        refine (mul_yes _ _ n l m _ _ _ _ _ _ _ _ _ _ z.x z'.x _ Hn.out.1 Hn.out.2 Hl.out.1 Hl.out.2 Hm.out.1 Hm.out.2 (HX.out.below HBc.out) (HX'.out.below HBc.out)).mono ?_
        rintro e w5 ⟨B5, r5, rfl, ho5, hb5⟩
        have HO5 := Lib.hid ho5.mat; have HB5 := Lib.hid (Below.next HBc.out hb5); clear ho5 hb5
        go_wp2_with fail
        refine (rright_yes _ _ _ _ _ _ _ (HZ.out.below HB5.out).rag HR.out).mono ?_
        rintro e w6 ⟨rfl, qw6, hqw6⟩
        have HB6 : Hid (Below w.heap.size w w6) := by rw [hqw6]; exact below_drewN HB5.out qw6
        have HO6 : Hid (Mat w6 B5 0 n m r5 (fun _ => 0) (fun _ => m) (mm l z.x z'.x)) := by rw [hqw6]; exact HO5.out.drewN qw6
        clear hqw6
        go_wp2_with fail
        refine (rright_yes _ _ _ _ _ _ _ (HZ'.out.below HB6.out).rag HR'.out).mono ?_
        rintro e w7 ⟨rfl, qw7, hqw7⟩
        have HB7 : Hid (Below w.heap.size w w7) := by rw [hqw7]; exact below_drewN HB6.out qw7
        have HO7 : Hid (Mat w7 B5 0 n m r5 (fun _ => 0) (fun _ => m) (mm l z.x z'.x)) := by rw [hqw7]; exact HO6.out.drewN qw7
        clear hqw7
        have ca0 := (HX.out.below HB7.out).top0 (by have := Hn.out.1; omega)
        have nn0 : (0 : Int) < (n : Int) := by have := Hn.out.1; omega
        have nn1 : n ≤ 32 := Hn.out.2
        have l32 : l ≤ 32 := Hl.out.2
        have t1 : ((l : Int) != (l : Int)) = false := by simp
        go_wp2_with fail
        refine (refmm_any _ _ n l m _ _ _ _ _ _ _ _ _ _ z.x z'.x _ Hn.out.1 (by omega) Hl.out.1 (by omega) Hm.out.1 (by have := Hm.out.2; omega) (HX.out.below HB7.out) (HX'.out.below HB7.out)).mono ?_
        rintro e w8 ⟨B8, cap8, r8, c8, rfl, hm8, hb8⟩
        have HM8 := Lib.hid hm8; have HO8 := Lib.hid (HO7.out.below hb8); have HB8 := Lib.hid (Below.next HB7.out hb8); clear hm8 hb8
        go_wp2_with fail
        refine (equal_yes _ _ n m _ _ _ _ _ _ _ _ _ _ _ _ _ (by omega) HO8.out HM8.out (fun _ _ _ _ => rfl)).mono ?_
        rintro e w9 ⟨rfl, q9, hq9⟩
        have HB9 : Hid (Below w.heap.size w w9) := by rw [hq9]; exact below_drewN HB8.out q9
        clear hq9
        go_wp2_with fail
        go_ret
        exact ⟨rfl, HB9.out⟩
  · have HFi := Lib.hid hfit; clear hfit
    refine (powers_no _ _ (by have := HFi.out; omega) _).mono ?_
    rintro e wc ⟨rfl, hwc⟩
    have HBc : Hid (Below w.heap.size w wc) := by rw [hwc]; exact HB2.out
    clear hwc
    go_wp2_with fail
    go_loop [11] (fun I => I = .int .i64 0) (fun _ => 0)
    case atStart => rfl
    case round =>
      obtain rfl := hrel
      go_wp2_with fail
      refine (mul_yes _ _ n l m _ _ _ _ _ _ _ _ _ _ z.x z'.x _ Hn.out.1 Hn.out.2 Hl.out.1 Hl.out.2 Hm.out.1 Hm.out.2 (HX.out.below HBc.out) (HX'.out.below HBc.out)).mono ?_
      rintro e w5 ⟨B5, r5, rfl, ho5, hb5⟩
      have HO5 := Lib.hid ho5.mat; have HB5 := Lib.hid (Below.next HBc.out hb5); clear ho5 hb5
      go_wp2_with fail
      refine (rright_yes _ _ _ _ _ _ _ (HZ.out.below HB5.out).rag HR.out).mono ?_
      rintro e w6 ⟨rfl, qw6, hqw6⟩
      have HB6 : Hid (Below w.heap.size w w6) := by rw [hqw6]; exact below_drewN HB5.out qw6
      have HO6 : Hid (Mat w6 B5 0 n m r5 (fun _ => 0) (fun _ => m) (mm l z.x z'.x)) := by rw [hqw6]; exact HO5.out.drewN qw6
      clear hqw6
      go_wp2_with fail
      refine (rright_yes _ _ _ _ _ _ _ (HZ'.out.below HB6.out).rag HR'.out).mono ?_
      rintro e w7 ⟨rfl, qw7, hqw7⟩
      have HB7 : Hid (Below w.heap.size w w7) := by rw [hqw7]; exact below_drewN HB6.out qw7
      have HO7 : Hid (Mat w7 B5 0 n m r5 (fun _ => 0) (fun _ => m) (mm l z.x z'.x)) := by rw [hqw7]; exact HO6.out.drewN qw7
      clear hqw7
      have ca0 := (HX.out.below HB7.out).top0 (by have := Hn.out.1; omega)
      have nn0 : (0 : Int) < (n : Int) := by have := Hn.out.1; omega
      have nn1 : n ≤ 32 := Hn.out.2
      have l32 : l ≤ 32 := Hl.out.2
      have t1 : ((l : Int) != (l : Int)) = false := by simp
      go_wp2_with fail
      refine (refmm_any _ _ n l m _ _ _ _ _ _ _ _ _ _ z.x z'.x _ Hn.out.1 (by omega) Hl.out.1 (by omega) Hm.out.1 (by have := Hm.out.2; omega) (HX.out.below HB7.out) (HX'.out.below HB7.out)).mono ?_
      rintro e w8 ⟨B8, cap8, r8, c8, rfl, hm8, hb8⟩
      have HM8 := Lib.hid hm8; have HO8 := Lib.hid (HO7.out.below hb8); have HB8 := Lib.hid (Below.next HB7.out hb8); clear hm8 hb8
      go_wp2_with fail
      refine (equal_yes _ _ n m _ _ _ _ _ _ _ _ _ _ _ _ _ (by omega) HO8.out HM8.out (fun _ _ _ _ => rfl)).mono ?_
      rintro e w9 ⟨rfl, q9, hq9⟩
      have HB9 : Hid (Below w.heap.size w w9) := by rw [hq9]; exact below_drewN HB8.out q9
      clear hq9
      go_wp2_with fail
      go_ret
      exact ⟨rfl, HB9.out⟩
/-! ### STEP 1: THE WALK: the Go text returns true, AND WRITES NOTHING THAT WAS THERE: 'Below w.heap.size w w'' (Derived/Below.lean: '.refl', '.alloc', '.drew', '.setCell' at a new block, '.trans'). Open each 'IsRow' by 'rcases' AHEAD of 'go_enter'; part every test ahead of the walk. -/
theorem walk (a0 : Option Addr) (len0 cap0 : Nat) (z0 : Mx.MatArg) (a1 : Option Addr) (len1 cap1 : Nat) (z1 : Mx.MatArg) (a2 : Int) (a3 : Int) (w : World) (w0 : z0.In w a0 len0) (w1 : z1.In w a1 len1) (w2 : (Lit.int .u8 a2).wf = true) (w3 : (Lit.int .u8 a3).wf = true) :
    Calls Try.prog 6 #[.slice a0 len0 cap0, .slice a1 len1 cap1, .int .u8 a2, .int .u8 a3] w fun e w' => e = .returned (.bool true) ∧ Below w.heap.size w w' := by
  obtain ⟨u, rfl, hu⟩ := u8_nat w2
  obtain ⟨v, rfl, hv⟩ := u8_nat w3
  by_cases hf : FewP len0 z0.L
  · by_cases hf' : FewP len1 z1.L
    · by_cases hs : SmallP len0 z0.L
      · by_cases hs' : SmallP len1 z1.L
        · by_cases hR : RightP len0 z0.L
          · by_cases hR' : RightP len1 z1.L
            · obtain ⟨B, O, rfl, hM⟩ := w0.mat hR
              by_cases hN : z0.L 0 = len1
              · obtain ⟨B', O', rfl, hM'⟩ := w1.mat hR'
                rw [hN] at hM
                exact fit B O B' O' len0 len1 (z1.L 0) cap0 cap1 u v z0 z1 w w0 w1 hf hf' hs hs' hu hv hR hR' ⟨hR.1, hR.2.1⟩ ⟨hR'.1, hR'.2.1⟩ ⟨hR'.2.2.1, hR'.2.2.2.1⟩ hM hM'
              · exact unfitC B O a1 len0 cap0 len1 cap1 u v z0 z1 w w0 w1 hf hf' hs hs' hu hv hR hR' hN
            · exact unfitB a0 a1 len0 cap0 len1 cap1 u v z0 z1 w w0 w1 hf hf' hs hs' hu hv hR hR'
          · exact unfitA a0 a1 len0 cap0 len1 cap1 u v z0 z1 w w0 w1 hf hf' hs hs' hu hv hR
        · exact large3 a0 a1 len0 cap0 len1 cap1 u v z0 z1 w w0 w1 hf hf' hs hs'
      · exact large2 a0 a1 len0 cap0 len1 cap1 u v z0 z1 w w0 w1 hf hf' hs
    · exact large1 a0 a1 len0 cap0 len1 cap1 u v z0 z1 w w0 w1 hf hf'
  · exact large0 a0 a1 len0 cap0 len1 cap1 u v z0 z1 w w0 w1 hf

/-! ### THE ROW's STEP: WRITTEN OUT: LEAVE IT -/
set_option maxRecDepth 100000 in
theorem lifted (os : Os) (started : os.Started) (H : Type) (enc : TypeId × Value → H) :
    ReturnsInHanded {} Try.checked os 6 .any (Rows.rowsPlaysSpec.pre6 enc Try.prog Try.f6 Rows.rowsPlaysRow.domain false) (Rows.rowsPlaysSpec.post enc Try.prog Try.f6 false true false false) := by
  refine returnsInHanded_of_change (C := Try.checked) own started (by kernel_rfl) Try.func6
    (ChangeSpec.witness6 (enc := enc) (C := Try.checked) false ⟨#[], #[.slice none 0 0, .slice none 0 0, .int .u8 0, .int .u8 0], []⟩ 8 (by kernel_rfl) (by kernel_rfl) (by kernel_rfl) (by kernel_rfl)) ?_
  intro W base args ds gs before hval0 hW hcnd _
  have hval : ∀ (j : Nat) t v, Try.f6.params[j]? = some t → args[j]? = some v → Value.okWide Try.prog W .any base t v := hval0
  have hW' := hW
  obtain ⟨p, q, hA0, hV, rfl, hfz, hnd⟩ := hW
  have hA : DataW.TrodAll enc Try.prog W 0 (fun _ => true) true Try.f6.params.toList args.toList ds p := hA0
  rw [Try.params6] at hA hval
  obtain ⟨v0, vs0, d0, ds0, p0, q0, hargs, rfl, rfl, h0, r0⟩ := trodAll_cons hA
  obtain ⟨v1, vs1, d1, ds1, p1, q1, rfl, rfl, rfl, h1, r1⟩ := trodAll_cons r0
  obtain ⟨v2, vs2, d2, ds2, p2, q2, rfl, rfl, rfl, h2, r2⟩ := trodAll_cons r1
  obtain ⟨v3, vs3, d3, ds3, p3, q3, rfl, rfl, rfl, h3, r3⟩ := trodAll_cons r2
  obtain ⟨rfl, rfl, rfl⟩ := trodAll_nil r3
  obtain rfl : args = #[v0, v1, v2, v3] := by cases args; simp_all
  obtain ⟨rfl, rfl⟩ := trodVars_none hV
  obtain ⟨a0, len0, cap0, rfl⟩ := okWide_slice Try.underlying22 (hval 0 22 v0 rfl rfl)
  have k0 := h0
  have lt0 : ∀ x ∈ p0, x.block < W.heap.size := by obtain ⟨m, hm⟩ := k0; exact DataW.trod_lt m _ _ _ hm
  obtain ⟨z0, w0⟩ : ∃ z : Mx.MatArg, z.In W a0 len0 := Mx.arg_of h0
  obtain ⟨a1, len1, cap1, rfl⟩ := okWide_slice Try.underlying22 (hval 1 22 v1 rfl rfl)
  have k1 := h1
  have lt1 : ∀ x ∈ p1, x.block < W.heap.size := by obtain ⟨m, hm⟩ := k1; exact DataW.trod_lt m _ _ _ hm
  obtain ⟨z1, w1⟩ : ∃ z : Mx.MatArg, z.In W a1 len1 := Mx.arg_of h1
  obtain ⟨a2, rfl, rfl, rfl, w2⟩ := open_int Try.underlying5 (hval 2 5 v2 rfl rfl) h2
  obtain ⟨a3, rfl, rfl, rfl, w3⟩ := open_int Try.underlying5 (hval 3 5 v3 rfl rfl) h3
  clear hA0 hval0
  refine (walk a0 len0 cap0 z0 a1 len1 cap1 z1 a2 a3 W w0 w1 w2 w3).mono fun e W' ⟨he, bel⟩ => ?_
  subst he
  exact ⟨_, rfl, _, _, _, [], _, [], hW', trodAll_mk1 (shut_bool Try.underlying4 _), (trodAll_cons_mk (Below.trod laidOut (by kernel_rfl) (of_decide_eq_true (by kernel_rfl)) k0 bel lt0) (trodAll_cons_mk (Below.trod laidOut (by kernel_rfl) (of_decide_eq_true (by kernel_rfl)) k1 bel lt1) (trodAll_cons_mk (shut_int Try.underlying5 w2) (trodAll_cons_mk (shut_int Try.underlying5 w3) trodAll_mk0)))), rfl, bel.frame _, fun h => by cases h⟩

theorem over : Rows.rowsPlaysRow.holds Try.pinned (OpenSpec.ofChange Rows.rowsPlaysSpec) :=
  OpenClaim.holds_of_wide 6 Try.f6 rfl rfl rfl rfl rfl rfl rfl ⟨rfl, rfl, rfl, rfl, rfl⟩ rfl rfl rfl rfl rfl (by kernel_rfl) Try.func6 (by kernel_rfl)
    (of_decide_eq_true (by kernel_rfl)) (by unfold Func.isWrapper; first | (rw [if_pos (by decide +kernel)]; kernel_rfl) | (rw [if_neg (by decide +kernel)]; exact ⟨rfl, rfl⟩))
    (fun os started H enc _ => lifted os started H enc)

/-- ████ THE STATEMENT ████ -/
theorem proved : Rows.RowsPlaysSaid := over
#print axioms proved
end Go.Proofs.Ytnobpdgicglieaa.rowsPlays
