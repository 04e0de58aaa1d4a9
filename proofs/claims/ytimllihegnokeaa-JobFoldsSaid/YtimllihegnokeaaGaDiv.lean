/-
  Div, Common; turns; norms, points turned about; which comes first.
-/
import Derived.Test.YtimllihegnokeaaGaDivide
import Derived.Test.YtimllihegnokeaaOvJump
import Derived.Test.YtimllihegnokeaaGaLess
namespace Go.Proofs.Ytimllihegnokeaa.Ga
open Go.ChangeShapes Go.WideShapes Go.ChangeAt Go.RowKit Go.Proofs.Ytimllihegnokeaa.Ov

/-- What a loop of turns keeps. -/
def RelT (x y : Int) (N : Nat) (C I : Value) : Prop := ∃ (k re im : Nat), k ≤ N ∧ I = .int .i64 (k : Int) ∧ C = .complex .f64 re im ∧ Is re (Pt.turns k ⟨x, y⟩).x ∧ Is im (Pt.turns k ⟨x, y⟩).y
set_option maxHeartbeats 1000000 in
theorem turn_any {x y : Int} (h : rb ⟨x, y⟩ = true) (N : Nat) (hN : N ≤ 3) (w : World) :
    Calls Try.prog 38 #[.agg #[.int .i64 x, .int .i64 y], .int .i64 (N : Int)] w (Gives (.agg #[.int .i64 (Pt.turns N ⟨x, y⟩).x, .int .i64 (Pt.turns N ⟨x, y⟩).y]) w) := by
  have hr : ∀ k, (-16777216 ≤ (Pt.turns k ⟨x, y⟩).x ∧ (Pt.turns k ⟨x, y⟩).x ≤ 16777216) ∧ (-16777216 ≤ (Pt.turns k ⟨x, y⟩).y ∧ (Pt.turns k ⟨x, y⟩).y ≤ 16777216) := fun k => rb_yes (Pt.turns_right k h)
  have HT := Lib.hid hr; clear hr
  obtain ⟨hx, hy⟩ := rb_xy h
  have i1 : Is (floatOfInt .f64 x) x := Is.ofInt (by omega)
  have i2 : Is (floatOfInt .f64 y) y := Is.ofInt (by omega)
  have HC := Lib.hid (complex_any x y)
  generalize floatOfInt .f64 x = fx at *
  generalize floatOfInt .f64 y = fy at *
  have I1 := Lib.hid i1; have I2 := Lib.hid i2; clear i1 i2 hx hy h
  go_enter Try.func38, Try.ntmps38
  go_wp2_with (fail)
  refine (HC.out _).mono ?_
  rintro e w1 ⟨rfl, hb⟩
  obtain ⟨h2, d0, d1⟩ := boxes2 23 (.int .i64 x) (.int .i64 y) (.int .i64 0) (.int .i64 0) w
  have HB := Lib.hid (Below.next h2 hb)
  have HD := Lib.hid (d1.next hb)
  clear hb h2 d0 d1
  go_wp2_with (fail)
  go_loop [5, 9] (fun C I => RelT x y N C I) (fun _ I => N - (intOf I).toNat)
  case atStart => exact ⟨0, fx, fy, by omega, rfl, rfl, I1.out, I2.out⟩
  case round =>
    obtain ⟨k, re, im, hk, rfl, rfl, j1, j2⟩ := hrel
    by_cases hlt : k < N
    · obtain ⟨b1, b2⟩ := HT.out k
      obtain ⟨re', im', hm, m1, m2⟩ := cmul j1 j2 Is.zero Is.one (by omega) (by omega) (by omega) (by omega)
      have hrun : ∀ w : World, (binOp .mul 58 (.complex .f64 re im) (.complex .f64 0 4607182418800017408)).run Try.prog w = .ok (.complex .f64 re' im') w := fun w => run_complex_mul w _ _ _ _ _ _ _ hm
      have M1 : Hid (Is re' (Pt.turns (k + 1) ⟨x, y⟩).x) := by
        show Is re' (-(Pt.turns k ⟨x, y⟩).y)
        rwa [show (Pt.turns k ⟨x, y⟩).x * 0 - (Pt.turns k ⟨x, y⟩).y * 1 = -(Pt.turns k ⟨x, y⟩).y by omega] at m1
      have M2 : Hid (Is im' (Pt.turns (k + 1) ⟨x, y⟩).y) := by
        show Is im' ((Pt.turns k ⟨x, y⟩).x)
        rwa [show (Pt.turns k ⟨x, y⟩).x * 1 + (Pt.turns k ⟨x, y⟩).y * 0 = (Pt.turns k ⟨x, y⟩).x by omega] at m2
      clear hm m1 m2 j1 j2 b1 b2
      go_wp2_with (fail)
      go_round
      case rel => exact ⟨k + 1, re', im', by omega, by go_num, rfl, M1.out, M2.out⟩
      case measure => simp [intOf]; omega
    · obtain rfl : k = N := by omega
      obtain ⟨b1, b2⟩ := HT.out k
      have HS := Lib.hid (spot_any j1 j2 (by omega) (by omega))
      generalize (Pt.turns k ⟨x, y⟩).x = p at *
      generalize (Pt.turns k ⟨x, y⟩).y = q at *
      clear j1 j2 b1 b2
      go_wp2_with (fail)
      refine (HS.out _).mono ?_
      rintro e w2 ⟨rfl, hb⟩
      have HB2 := Lib.hid (Below.next HB.out hb)
      have hz := (HD.out.next hb).lt
      obtain ⟨e0, e1, g0, g1⟩ := HD.out.next hb
      clear hb
      go_wp2_with (fail)
      refine bodyPost_ret (v := .agg #[.int .i64 p, .int .i64 q]) (by simp [results, Try.results38, go_sem, e0, e1]) rfl ⟨rfl, ?_⟩
      exact below_put2 HB2.out (c := w.heap.size + 1) (by omega) _ _
end Go.Proofs.Ytimllihegnokeaa.Ga
