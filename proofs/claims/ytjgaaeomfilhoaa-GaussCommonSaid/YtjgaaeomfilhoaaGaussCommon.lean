/-
  Proved: for every input the law GaussCommon returns true, and leaves its arguments as they were. No condition.
-/
import Derived.Test.YtjgaaeomfilhoaaRows
import Derived.WalkKit
import Derived.ProofKit
import Derived.OpenShut
import Derived.ShutString
import Derived.Test.YtjgaaeomfilhoaaGaAwake
namespace Go.Proofs.Ytjgaaeomfilhoaa.gaussCommon
open Go.ChangeShapes Go.WideShapes Go.ChangeAt Go.RowKit
open Go.ChangeMaps (open_string shut_string)
set_option linter.unusedVariables false      -- a walk need not use every 'w<i>' (that an integer argument fits its kind)

theorem own : ownKnob Try.prog.godebug = none := by kernel_rfl

open Go.Proofs.Ytjgaaeomfilhoaa.Ga Go.Proofs.Ytjgaaeomfilhoaa.Ov
set_option maxHeartbeats 1000000 in
theorem bad {x y u v p q : Int} (w : World) (HC : Hid (∀ w, Calls Try.prog 15 #[.agg #[.int .i64 x, .int .i64 y], .agg #[.int .i64 u, .int .i64 v]] w (Gives (.tuple #[.agg #[.int .i64 0, .int .i64 0], .int .i64 14]) w))) : Calls Try.prog 5 #[.agg #[.int .i64 x, .int .i64 y], .agg #[.int .i64 u, .int .i64 v], .agg #[.int .i64 p, .int .i64 q]] w (Gives (.bool true) w) := by
  go_enter Try.func5, Try.ntmps5
  go_wp2_with (fail)
  obtain ⟨kb, oD0, oD1, oD2⟩ := boxes3 23 (.int .i64 x) (.int .i64 y) (.int .i64 u) (.int .i64 v) (.int .i64 p) (.int .i64 q) w
  have HB_1 := Lib.hid kb
  have D0_1 := Lib.hid oD0
  have D1_1 := Lib.hid oD1
  have D2_1 := Lib.hid oD2
  clear kb oD0 oD1 oD2
  generalize ((w.alloc (.cells #[.int .i64 x, .int .i64 y] 23)).alloc (.cells #[.int .i64 u, .int .i64 v] 23)).alloc (.cells #[.int .i64 p, .int .i64 q] 23) = v1 at *
  refine (awake_any _).mono ?_
  rintro e w1_ ⟨rfl, hb⟩
  have D0_2 := Lib.hid (D0_1.out.next hb)
  have D1_2 := Lib.hid (D1_1.out.next hb)
  have D2_2 := Lib.hid (D2_1.out.next hb)
  have HB_2 := Lib.hid (Below.next HB_1.out hb)
  clear D0_1 D1_1 D2_1 HB_1
  clear hb
  obtain ⟨D00, D01, D02, D03⟩ := D0_2.out
  obtain ⟨D10, D11, D12, D13⟩ := D1_2.out
  go_wp2_with (fail)
  clear D00 D01 D02 D03 D10 D11 D12 D13
  refine (HC.out _).mono ?_
  rintro e w2_ ⟨rfl, hb⟩
  have D0_3 := Lib.hid (D0_2.out.next hb)
  have D1_3 := Lib.hid (D1_2.out.next hb)
  have D2_3 := Lib.hid (D2_2.out.next hb)
  have HB_3 := Lib.hid (Below.next HB_2.out hb)
  clear D0_2 D1_2 D2_2 HB_2
  clear hb
  obtain ⟨kb, oK⟩ := boxes1 23 (.int .i64 0) (.int .i64 0) w2_
  have D0_4 := Lib.hid (D0_3.out.next kb)
  have D1_4 := Lib.hid (D1_3.out.next kb)
  have D2_4 := Lib.hid (D2_3.out.next kb)
  have HB_4 := Lib.hid (Below.next HB_3.out kb)
  clear D0_3 D1_3 D2_3 HB_3
  have K_4 := Lib.hid oK
  clear kb oK
  obtain ⟨K0, K1, K2, K3⟩ := K_4.out
  go_wp2_with (fail)
  generalize w2_.alloc (.cells #[.int .i64 0, .int .i64 0] 23) = v4 at *
  generalize w2_.heap.size = g4 at *
  go_ret
  exact ⟨rfl, HB_4.out⟩
set_option maxHeartbeats 1000000 in
theorem none_ {p q : Int} (w : World) (HC : Hid (∀ w, Calls Try.prog 15 #[.agg #[.int .i64 0, .int .i64 0], .agg #[.int .i64 0, .int .i64 0]] w (Gives (.tuple #[.agg #[.int .i64 0, .int .i64 0], .int .i64 0]) w))) : Calls Try.prog 5 #[.agg #[.int .i64 0, .int .i64 0], .agg #[.int .i64 0, .int .i64 0], .agg #[.int .i64 p, .int .i64 q]] w (Gives (.bool true) w) := by
  go_enter Try.func5, Try.ntmps5
  go_wp2_with (fail)
  obtain ⟨kb, oD0, oD1, oD2⟩ := boxes3 23 (.int .i64 0) (.int .i64 0) (.int .i64 0) (.int .i64 0) (.int .i64 p) (.int .i64 q) w
  have HB_1 := Lib.hid kb
  have D0_1 := Lib.hid oD0
  have D1_1 := Lib.hid oD1
  have D2_1 := Lib.hid oD2
  clear kb oD0 oD1 oD2
  generalize ((w.alloc (.cells #[.int .i64 0, .int .i64 0] 23)).alloc (.cells #[.int .i64 0, .int .i64 0] 23)).alloc (.cells #[.int .i64 p, .int .i64 q] 23) = v1 at *
  refine (awake_any _).mono ?_
  rintro e w1_ ⟨rfl, hb⟩
  have D0_2 := Lib.hid (D0_1.out.next hb)
  have D1_2 := Lib.hid (D1_1.out.next hb)
  have D2_2 := Lib.hid (D2_1.out.next hb)
  have HB_2 := Lib.hid (Below.next HB_1.out hb)
  clear D0_1 D1_1 D2_1 HB_1
  clear hb
  obtain ⟨D00, D01, D02, D03⟩ := D0_2.out
  obtain ⟨D10, D11, D12, D13⟩ := D1_2.out
  go_wp2_with (fail)
  clear D00 D01 D02 D03 D10 D11 D12 D13
  refine (HC.out _).mono ?_
  rintro e w2_ ⟨rfl, hb⟩
  have D0_3 := Lib.hid (D0_2.out.next hb)
  have D1_3 := Lib.hid (D1_2.out.next hb)
  have D2_3 := Lib.hid (D2_2.out.next hb)
  have HB_3 := Lib.hid (Below.next HB_2.out hb)
  clear D0_2 D1_2 D2_2 HB_2
  clear hb
  obtain ⟨kb, oK⟩ := boxes1 23 (.int .i64 0) (.int .i64 0) w2_
  have D0_4 := Lib.hid (D0_3.out.next kb)
  have D1_4 := Lib.hid (D1_3.out.next kb)
  have D2_4 := Lib.hid (D2_3.out.next kb)
  have HB_4 := Lib.hid (Below.next HB_3.out kb)
  clear D0_3 D1_3 D2_3 HB_3
  have K_4 := Lib.hid oK
  clear kb oK
  obtain ⟨K0, K1, K2, K3⟩ := K_4.out
  obtain ⟨D00, D01, D02, D03⟩ := D0_4.out
  obtain ⟨D10, D11, D12, D13⟩ := D1_4.out
  go_wp2_with (fail)
  generalize w2_.alloc (.cells #[.int .i64 0, .int .i64 0] 23) = v4 at *
  generalize w2_.heap.size = g4 at *
  go_ret
  exact ⟨rfl, HB_4.out⟩
set_option maxHeartbeats 4000000 in
theorem early {x y u v p q c d a1 a2 b1 b2 e1 e2 f1 f2 h g1 g2 k1 k2 i : Int} (w : World) (HC : Hid (∀ w, Calls Try.prog 15 #[.agg #[.int .i64 x, .int .i64 y], .agg #[.int .i64 u, .int .i64 v]] w (Gives (.tuple #[.agg #[.int .i64 c, .int .i64 d], .int .i64 0]) w))) (H1 : Hid (∀ w, Calls Try.prog 14 #[.agg #[.int .i64 x, .int .i64 y], .agg #[.int .i64 c, .int .i64 d]] w (Gives (.tuple #[.agg #[.int .i64 a1, .int .i64 a2], .agg #[.int .i64 0, .int .i64 0], .int .i64 0]) w))) (H2 : Hid (∀ w, Calls Try.prog 14 #[.agg #[.int .i64 u, .int .i64 v], .agg #[.int .i64 c, .int .i64 d]] w (Gives (.tuple #[.agg #[.int .i64 b1, .int .i64 b2], .agg #[.int .i64 0, .int .i64 0], .int .i64 0]) w))) (H3 : Hid (∀ w, Calls Try.prog 14 #[.agg #[.int .i64 x, .int .i64 y], .agg #[.int .i64 p, .int .i64 q]] w (Gives (.tuple #[.agg #[.int .i64 e1, .int .i64 e2], .agg #[.int .i64 f1, .int .i64 f2], .int .i64 h]) w))) (H4 : Hid (∀ w, Calls Try.prog 14 #[.agg #[.int .i64 u, .int .i64 v], .agg #[.int .i64 p, .int .i64 q]] w (Gives (.tuple #[.agg #[.int .i64 g1, .int .i64 g2], .agg #[.int .i64 k1, .int .i64 k2], .int .i64 i]) w))) (c0 : 0 < c) (d0 : 0 ≤ d) (cb : (c == 0) = false)
    (hp : (h != 0) = true ∨ ((h != 0) = false ∧ (i != 0) = true) ∨ ((h != 0) = false ∧ (i != 0) = false ∧ (f1 == 0) = false) ∨ ((h != 0) = false ∧ (i != 0) = false ∧ (f1 == 0) = true ∧ (f2 == 0) = false)) : Calls Try.prog 5 #[.agg #[.int .i64 x, .int .i64 y], .agg #[.int .i64 u, .int .i64 v], .agg #[.int .i64 p, .int .i64 q]] w (Gives (.bool true) w) := by
  rcases hp with h1 | ⟨h1, h2⟩ | ⟨h1, h2, h3⟩ | ⟨h1, h2, h3, h4⟩
  all_goals
    go_enter Try.func5, Try.ntmps5
    go_wp2_with (fail)
    obtain ⟨kb, oD0, oD1, oD2⟩ := boxes3 23 (.int .i64 x) (.int .i64 y) (.int .i64 u) (.int .i64 v) (.int .i64 p) (.int .i64 q) w
    have HB_1 := Lib.hid kb
    have D0_1 := Lib.hid oD0
    have D1_1 := Lib.hid oD1
    have D2_1 := Lib.hid oD2
    clear kb oD0 oD1 oD2
    generalize ((w.alloc (.cells #[.int .i64 x, .int .i64 y] 23)).alloc (.cells #[.int .i64 u, .int .i64 v] 23)).alloc (.cells #[.int .i64 p, .int .i64 q] 23) = v1 at *
    refine (awake_any _).mono ?_
    rintro e w1_ ⟨rfl, hb⟩
    have D0_2 := Lib.hid (D0_1.out.next hb)
    have D1_2 := Lib.hid (D1_1.out.next hb)
    have D2_2 := Lib.hid (D2_1.out.next hb)
    have HB_2 := Lib.hid (Below.next HB_1.out hb)
    clear D0_1 D1_1 D2_1 HB_1
    clear hb
    obtain ⟨D00, D01, D02, D03⟩ := D0_2.out
    obtain ⟨D10, D11, D12, D13⟩ := D1_2.out
    go_wp2_with (fail)
    clear D00 D01 D02 D03 D10 D11 D12 D13
    refine (HC.out _).mono ?_
    rintro e w2_ ⟨rfl, hb⟩
    have D0_3 := Lib.hid (D0_2.out.next hb)
    have D1_3 := Lib.hid (D1_2.out.next hb)
    have D2_3 := Lib.hid (D2_2.out.next hb)
    have HB_3 := Lib.hid (Below.next HB_2.out hb)
    clear D0_2 D1_2 D2_2 HB_2
    clear hb
    obtain ⟨kb, oK⟩ := boxes1 23 (.int .i64 c) (.int .i64 d) w2_
    have D0_4 := Lib.hid (D0_3.out.next kb)
    have D1_4 := Lib.hid (D1_3.out.next kb)
    have D2_4 := Lib.hid (D2_3.out.next kb)
    have HB_4 := Lib.hid (Below.next HB_3.out kb)
    clear D0_3 D1_3 D2_3 HB_3
    have K_4 := Lib.hid oK
    clear kb oK
    obtain ⟨K0, K1, K2, K3⟩ := K_4.out
    obtain ⟨D00, D01, D02, D03⟩ := D0_4.out
    go_wp2_with (fail)
    generalize w2_.alloc (.cells #[.int .i64 c, .int .i64 d] 23) = v4 at *
    generalize w2_.heap.size = g4 at *
    clear K0 K1 K2 K3 D00 D01 D02 D03
    refine (H1.out _).mono ?_
    rintro e w4_ ⟨rfl, hb⟩
    have D0_5 := Lib.hid (D0_4.out.next hb)
    have D1_5 := Lib.hid (D1_4.out.next hb)
    have D2_5 := Lib.hid (D2_4.out.next hb)
    have K_5 := Lib.hid (K_4.out.next hb)
    have HB_5 := Lib.hid (Below.next HB_4.out hb)
    clear D0_4 D1_4 D2_4 K_4 HB_4
    clear hb
    obtain ⟨kb, oQ1, oR1⟩ := boxes2 23 (.int .i64 a1) (.int .i64 a2) (.int .i64 0) (.int .i64 0) w4_
    have D0_6 := Lib.hid (D0_5.out.next kb)
    have D1_6 := Lib.hid (D1_5.out.next kb)
    have D2_6 := Lib.hid (D2_5.out.next kb)
    have K_6 := Lib.hid (K_5.out.next kb)
    have HB_6 := Lib.hid (Below.next HB_5.out kb)
    clear D0_5 D1_5 D2_5 K_5 HB_5
    have Q1_6 := Lib.hid oQ1
    have R1_6 := Lib.hid oR1
    clear kb oQ1 oR1
    obtain ⟨D10, D11, D12, D13⟩ := D1_6.out
    obtain ⟨K0, K1, K2, K3⟩ := K_6.out
    go_wp2_with (fail)
    generalize (w4_.alloc (.cells #[.int .i64 a1, .int .i64 a2] 23)).alloc (.cells #[.int .i64 0, .int .i64 0] 23) = v6 at *
    generalize w4_.heap.size = g6 at *
    clear D10 D11 D12 D13 K0 K1 K2 K3
    refine (H2.out _).mono ?_
    rintro e w6_ ⟨rfl, hb⟩
    clear Q1_6
    have D0_7 := Lib.hid (D0_6.out.next hb)
    have D1_7 := Lib.hid (D1_6.out.next hb)
    have D2_7 := Lib.hid (D2_6.out.next hb)
    have K_7 := Lib.hid (K_6.out.next hb)
    have R1_7 := Lib.hid (R1_6.out.next hb)
    have HB_7 := Lib.hid (Below.next HB_6.out hb)
    clear D0_6 D1_6 D2_6 K_6 R1_6 HB_6
    clear hb
    obtain ⟨kb, oQ2, oR2⟩ := boxes2 23 (.int .i64 b1) (.int .i64 b2) (.int .i64 0) (.int .i64 0) w6_
    have D0_8 := Lib.hid (D0_7.out.next kb)
    have D1_8 := Lib.hid (D1_7.out.next kb)
    have D2_8 := Lib.hid (D2_7.out.next kb)
    have K_8 := Lib.hid (K_7.out.next kb)
    have R1_8 := Lib.hid (R1_7.out.next kb)
    have HB_8 := Lib.hid (Below.next HB_7.out kb)
    clear D0_7 D1_7 D2_7 K_7 R1_7 HB_7
    have Q2_8 := Lib.hid oQ2
    have R2_8 := Lib.hid oR2
    clear kb oQ2 oR2
    obtain ⟨R10, R11, R12, R13⟩ := R1_8.out
    obtain ⟨R20, R21, R22, R23⟩ := R2_8.out
    obtain ⟨K0, K1, K2, K3⟩ := K_8.out
    obtain ⟨D00, D01, D02, D03⟩ := D0_8.out
    obtain ⟨D20, D21, D22, D23⟩ := D2_8.out
    go_wp2_with (fail)
    generalize (w6_.alloc (.cells #[.int .i64 b1, .int .i64 b2] 23)).alloc (.cells #[.int .i64 0, .int .i64 0] 23) = v8 at *
    generalize w6_.heap.size = g8 at *
    clear R10 R11 R12 R13 R20 R21 R22 R23 K0 K1 K2 K3 D00 D01 D02 D03 D20 D21 D22 D23
    refine (H3.out _).mono ?_
    rintro e w8_ ⟨rfl, hb⟩
    clear Q2_8
    clear R1_8
    clear R2_8
    clear D0_8
    have D1_9 := Lib.hid (D1_8.out.next hb)
    have D2_9 := Lib.hid (D2_8.out.next hb)
    have K_9 := Lib.hid (K_8.out.next hb)
    have HB_9 := Lib.hid (Below.next HB_8.out hb)
    clear D1_8 D2_8 K_8 HB_8
    clear hb
    obtain ⟨kb, oQ3, oR3⟩ := boxes2 23 (.int .i64 e1) (.int .i64 e2) (.int .i64 f1) (.int .i64 f2) w8_
    have D1_10 := Lib.hid (D1_9.out.next kb)
    have D2_10 := Lib.hid (D2_9.out.next kb)
    have K_10 := Lib.hid (K_9.out.next kb)
    have HB_10 := Lib.hid (Below.next HB_9.out kb)
    clear D1_9 D2_9 K_9 HB_9
    have Q3_10 := Lib.hid oQ3
    have R3_10 := Lib.hid oR3
    clear kb oQ3 oR3
    obtain ⟨D10, D11, D12, D13⟩ := D1_10.out
    obtain ⟨D20, D21, D22, D23⟩ := D2_10.out
    go_wp2_with (fail)
    generalize (w8_.alloc (.cells #[.int .i64 e1, .int .i64 e2] 23)).alloc (.cells #[.int .i64 f1, .int .i64 f2] 23) = v10 at *
    generalize w8_.heap.size = g10 at *
    clear D10 D11 D12 D13 D20 D21 D22 D23
    refine (H4.out _).mono ?_
    rintro e w10_ ⟨rfl, hb⟩
    have D1_11 := Lib.hid (D1_10.out.next hb)
    have D2_11 := Lib.hid (D2_10.out.next hb)
    have K_11 := Lib.hid (K_10.out.next hb)
    have Q3_11 := Lib.hid (Q3_10.out.next hb)
    have R3_11 := Lib.hid (R3_10.out.next hb)
    have HB_11 := Lib.hid (Below.next HB_10.out hb)
    clear D1_10 D2_10 K_10 Q3_10 R3_10 HB_10
    clear hb
    obtain ⟨kb, oQ4, oR4⟩ := boxes2 23 (.int .i64 g1) (.int .i64 g2) (.int .i64 k1) (.int .i64 k2) w10_
    have D1_12 := Lib.hid (D1_11.out.next kb)
    have D2_12 := Lib.hid (D2_11.out.next kb)
    have K_12 := Lib.hid (K_11.out.next kb)
    have Q3_12 := Lib.hid (Q3_11.out.next kb)
    have R3_12 := Lib.hid (R3_11.out.next kb)
    have HB_12 := Lib.hid (Below.next HB_11.out kb)
    clear D1_11 D2_11 K_11 Q3_11 R3_11 HB_11
    have Q4_12 := Lib.hid oQ4
    have R4_12 := Lib.hid oR4
    clear kb oQ4 oR4
    obtain ⟨R30, R31, R32, R33⟩ := R3_12.out
    obtain ⟨R40, R41, R42, R43⟩ := R4_12.out
    go_wp2_with (fail)
    generalize (w10_.alloc (.cells #[.int .i64 g1, .int .i64 g2] 23)).alloc (.cells #[.int .i64 k1, .int .i64 k2] 23) = v12 at *
    generalize w10_.heap.size = g12 at *
    go_ret
    exact ⟨rfl, HB_12.out⟩
set_option maxHeartbeats 4000000 in
theorem apart_ {x y u v p q c d a1 a2 b1 b2 e1 e2 f1 f2 h g1 g2 k1 k2 i : Int} (w : World) (HC : Hid (∀ w, Calls Try.prog 15 #[.agg #[.int .i64 x, .int .i64 y], .agg #[.int .i64 u, .int .i64 v]] w (Gives (.tuple #[.agg #[.int .i64 c, .int .i64 d], .int .i64 0]) w))) (H1 : Hid (∀ w, Calls Try.prog 14 #[.agg #[.int .i64 x, .int .i64 y], .agg #[.int .i64 c, .int .i64 d]] w (Gives (.tuple #[.agg #[.int .i64 a1, .int .i64 a2], .agg #[.int .i64 0, .int .i64 0], .int .i64 0]) w))) (H2 : Hid (∀ w, Calls Try.prog 14 #[.agg #[.int .i64 u, .int .i64 v], .agg #[.int .i64 c, .int .i64 d]] w (Gives (.tuple #[.agg #[.int .i64 b1, .int .i64 b2], .agg #[.int .i64 0, .int .i64 0], .int .i64 0]) w))) (H3 : Hid (∀ w, Calls Try.prog 14 #[.agg #[.int .i64 x, .int .i64 y], .agg #[.int .i64 p, .int .i64 q]] w (Gives (.tuple #[.agg #[.int .i64 e1, .int .i64 e2], .agg #[.int .i64 f1, .int .i64 f2], .int .i64 h]) w))) (H4 : Hid (∀ w, Calls Try.prog 14 #[.agg #[.int .i64 u, .int .i64 v], .agg #[.int .i64 p, .int .i64 q]] w (Gives (.tuple #[.agg #[.int .i64 g1, .int .i64 g2], .agg #[.int .i64 k1, .int .i64 k2], .int .i64 i]) w))) (c0 : 0 < c) (d0 : 0 ≤ d) (cb : (c == 0) = false)
    (h1 : (h != 0) = false) (h2 : (i != 0) = false) (z1 : f1 = 0) (z2 : f2 = 0) (hp : (k1 == 0) = false ∨ ((k1 == 0) = true ∧ (k2 == 0) = false)) : Calls Try.prog 5 #[.agg #[.int .i64 x, .int .i64 y], .agg #[.int .i64 u, .int .i64 v], .agg #[.int .i64 p, .int .i64 q]] w (Gives (.bool true) w) := by
  subst z1; subst z2
  rcases hp with h3 | ⟨h3, h4⟩
  all_goals
    go_enter Try.func5, Try.ntmps5
    go_wp2_with (fail)
    obtain ⟨kb, oD0, oD1, oD2⟩ := boxes3 23 (.int .i64 x) (.int .i64 y) (.int .i64 u) (.int .i64 v) (.int .i64 p) (.int .i64 q) w
    have HB_1 := Lib.hid kb
    have D0_1 := Lib.hid oD0
    have D1_1 := Lib.hid oD1
    have D2_1 := Lib.hid oD2
    clear kb oD0 oD1 oD2
    generalize ((w.alloc (.cells #[.int .i64 x, .int .i64 y] 23)).alloc (.cells #[.int .i64 u, .int .i64 v] 23)).alloc (.cells #[.int .i64 p, .int .i64 q] 23) = v1 at *
    refine (awake_any _).mono ?_
    rintro e w1_ ⟨rfl, hb⟩
    have D0_2 := Lib.hid (D0_1.out.next hb)
    have D1_2 := Lib.hid (D1_1.out.next hb)
    have D2_2 := Lib.hid (D2_1.out.next hb)
    have HB_2 := Lib.hid (Below.next HB_1.out hb)
    clear D0_1 D1_1 D2_1 HB_1
    clear hb
    obtain ⟨D00, D01, D02, D03⟩ := D0_2.out
    obtain ⟨D10, D11, D12, D13⟩ := D1_2.out
    go_wp2_with (fail)
    clear D00 D01 D02 D03 D10 D11 D12 D13
    refine (HC.out _).mono ?_
    rintro e w2_ ⟨rfl, hb⟩
    have D0_3 := Lib.hid (D0_2.out.next hb)
    have D1_3 := Lib.hid (D1_2.out.next hb)
    have D2_3 := Lib.hid (D2_2.out.next hb)
    have HB_3 := Lib.hid (Below.next HB_2.out hb)
    clear D0_2 D1_2 D2_2 HB_2
    clear hb
    obtain ⟨kb, oK⟩ := boxes1 23 (.int .i64 c) (.int .i64 d) w2_
    have D0_4 := Lib.hid (D0_3.out.next kb)
    have D1_4 := Lib.hid (D1_3.out.next kb)
    have D2_4 := Lib.hid (D2_3.out.next kb)
    have HB_4 := Lib.hid (Below.next HB_3.out kb)
    clear D0_3 D1_3 D2_3 HB_3
    have K_4 := Lib.hid oK
    clear kb oK
    obtain ⟨K0, K1, K2, K3⟩ := K_4.out
    obtain ⟨D00, D01, D02, D03⟩ := D0_4.out
    go_wp2_with (fail)
    generalize w2_.alloc (.cells #[.int .i64 c, .int .i64 d] 23) = v4 at *
    generalize w2_.heap.size = g4 at *
    clear K0 K1 K2 K3 D00 D01 D02 D03
    refine (H1.out _).mono ?_
    rintro e w4_ ⟨rfl, hb⟩
    have D0_5 := Lib.hid (D0_4.out.next hb)
    have D1_5 := Lib.hid (D1_4.out.next hb)
    have D2_5 := Lib.hid (D2_4.out.next hb)
    have K_5 := Lib.hid (K_4.out.next hb)
    have HB_5 := Lib.hid (Below.next HB_4.out hb)
    clear D0_4 D1_4 D2_4 K_4 HB_4
    clear hb
    obtain ⟨kb, oQ1, oR1⟩ := boxes2 23 (.int .i64 a1) (.int .i64 a2) (.int .i64 0) (.int .i64 0) w4_
    have D0_6 := Lib.hid (D0_5.out.next kb)
    have D1_6 := Lib.hid (D1_5.out.next kb)
    have D2_6 := Lib.hid (D2_5.out.next kb)
    have K_6 := Lib.hid (K_5.out.next kb)
    have HB_6 := Lib.hid (Below.next HB_5.out kb)
    clear D0_5 D1_5 D2_5 K_5 HB_5
    have Q1_6 := Lib.hid oQ1
    have R1_6 := Lib.hid oR1
    clear kb oQ1 oR1
    obtain ⟨D10, D11, D12, D13⟩ := D1_6.out
    obtain ⟨K0, K1, K2, K3⟩ := K_6.out
    go_wp2_with (fail)
    generalize (w4_.alloc (.cells #[.int .i64 a1, .int .i64 a2] 23)).alloc (.cells #[.int .i64 0, .int .i64 0] 23) = v6 at *
    generalize w4_.heap.size = g6 at *
    clear D10 D11 D12 D13 K0 K1 K2 K3
    refine (H2.out _).mono ?_
    rintro e w6_ ⟨rfl, hb⟩
    clear Q1_6
    have D0_7 := Lib.hid (D0_6.out.next hb)
    have D1_7 := Lib.hid (D1_6.out.next hb)
    have D2_7 := Lib.hid (D2_6.out.next hb)
    have K_7 := Lib.hid (K_6.out.next hb)
    have R1_7 := Lib.hid (R1_6.out.next hb)
    have HB_7 := Lib.hid (Below.next HB_6.out hb)
    clear D0_6 D1_6 D2_6 K_6 R1_6 HB_6
    clear hb
    obtain ⟨kb, oQ2, oR2⟩ := boxes2 23 (.int .i64 b1) (.int .i64 b2) (.int .i64 0) (.int .i64 0) w6_
    have D0_8 := Lib.hid (D0_7.out.next kb)
    have D1_8 := Lib.hid (D1_7.out.next kb)
    have D2_8 := Lib.hid (D2_7.out.next kb)
    have K_8 := Lib.hid (K_7.out.next kb)
    have R1_8 := Lib.hid (R1_7.out.next kb)
    have HB_8 := Lib.hid (Below.next HB_7.out kb)
    clear D0_7 D1_7 D2_7 K_7 R1_7 HB_7
    have Q2_8 := Lib.hid oQ2
    have R2_8 := Lib.hid oR2
    clear kb oQ2 oR2
    obtain ⟨R10, R11, R12, R13⟩ := R1_8.out
    obtain ⟨R20, R21, R22, R23⟩ := R2_8.out
    obtain ⟨K0, K1, K2, K3⟩ := K_8.out
    obtain ⟨D00, D01, D02, D03⟩ := D0_8.out
    obtain ⟨D20, D21, D22, D23⟩ := D2_8.out
    go_wp2_with (fail)
    generalize (w6_.alloc (.cells #[.int .i64 b1, .int .i64 b2] 23)).alloc (.cells #[.int .i64 0, .int .i64 0] 23) = v8 at *
    generalize w6_.heap.size = g8 at *
    clear R10 R11 R12 R13 R20 R21 R22 R23 K0 K1 K2 K3 D00 D01 D02 D03 D20 D21 D22 D23
    refine (H3.out _).mono ?_
    rintro e w8_ ⟨rfl, hb⟩
    clear Q2_8
    clear R1_8
    clear R2_8
    clear D0_8
    have D1_9 := Lib.hid (D1_8.out.next hb)
    have D2_9 := Lib.hid (D2_8.out.next hb)
    have K_9 := Lib.hid (K_8.out.next hb)
    have HB_9 := Lib.hid (Below.next HB_8.out hb)
    clear D1_8 D2_8 K_8 HB_8
    clear hb
    obtain ⟨kb, oQ3, oR3⟩ := boxes2 23 (.int .i64 e1) (.int .i64 e2) (.int .i64 0) (.int .i64 0) w8_
    have D1_10 := Lib.hid (D1_9.out.next kb)
    have D2_10 := Lib.hid (D2_9.out.next kb)
    have K_10 := Lib.hid (K_9.out.next kb)
    have HB_10 := Lib.hid (Below.next HB_9.out kb)
    clear D1_9 D2_9 K_9 HB_9
    have Q3_10 := Lib.hid oQ3
    have R3_10 := Lib.hid oR3
    clear kb oQ3 oR3
    obtain ⟨D10, D11, D12, D13⟩ := D1_10.out
    obtain ⟨D20, D21, D22, D23⟩ := D2_10.out
    go_wp2_with (fail)
    generalize (w8_.alloc (.cells #[.int .i64 e1, .int .i64 e2] 23)).alloc (.cells #[.int .i64 0, .int .i64 0] 23) = v10 at *
    generalize w8_.heap.size = g10 at *
    clear D10 D11 D12 D13 D20 D21 D22 D23
    refine (H4.out _).mono ?_
    rintro e w10_ ⟨rfl, hb⟩
    have D1_11 := Lib.hid (D1_10.out.next hb)
    have D2_11 := Lib.hid (D2_10.out.next hb)
    have K_11 := Lib.hid (K_10.out.next hb)
    have Q3_11 := Lib.hid (Q3_10.out.next hb)
    have R3_11 := Lib.hid (R3_10.out.next hb)
    have HB_11 := Lib.hid (Below.next HB_10.out hb)
    clear D1_10 D2_10 K_10 Q3_10 R3_10 HB_10
    clear hb
    obtain ⟨kb, oQ4, oR4⟩ := boxes2 23 (.int .i64 g1) (.int .i64 g2) (.int .i64 k1) (.int .i64 k2) w10_
    have D1_12 := Lib.hid (D1_11.out.next kb)
    have D2_12 := Lib.hid (D2_11.out.next kb)
    have K_12 := Lib.hid (K_11.out.next kb)
    have Q3_12 := Lib.hid (Q3_11.out.next kb)
    have R3_12 := Lib.hid (R3_11.out.next kb)
    have HB_12 := Lib.hid (Below.next HB_11.out kb)
    clear D1_11 D2_11 K_11 Q3_11 R3_11 HB_11
    have Q4_12 := Lib.hid oQ4
    have R4_12 := Lib.hid oR4
    clear kb oQ4 oR4
    obtain ⟨R30, R31, R32, R33⟩ := R3_12.out
    obtain ⟨R40, R41, R42, R43⟩ := R4_12.out
    go_wp2_with (fail)
    generalize (w10_.alloc (.cells #[.int .i64 g1, .int .i64 g2] 23)).alloc (.cells #[.int .i64 k1, .int .i64 k2] 23) = v12 at *
    generalize w10_.heap.size = g12 at *
    go_ret
    exact ⟨rfl, HB_12.out⟩
set_option maxHeartbeats 4000000 in
theorem late {x y u v p q c d a1 a2 b1 b2 e1 e2 f1 f2 h g1 g2 k1 k2 i j1 j2 : Int} (w : World) (HC : Hid (∀ w, Calls Try.prog 15 #[.agg #[.int .i64 x, .int .i64 y], .agg #[.int .i64 u, .int .i64 v]] w (Gives (.tuple #[.agg #[.int .i64 c, .int .i64 d], .int .i64 0]) w))) (H1 : Hid (∀ w, Calls Try.prog 14 #[.agg #[.int .i64 x, .int .i64 y], .agg #[.int .i64 c, .int .i64 d]] w (Gives (.tuple #[.agg #[.int .i64 a1, .int .i64 a2], .agg #[.int .i64 0, .int .i64 0], .int .i64 0]) w))) (H2 : Hid (∀ w, Calls Try.prog 14 #[.agg #[.int .i64 u, .int .i64 v], .agg #[.int .i64 c, .int .i64 d]] w (Gives (.tuple #[.agg #[.int .i64 b1, .int .i64 b2], .agg #[.int .i64 0, .int .i64 0], .int .i64 0]) w))) (H3 : Hid (∀ w, Calls Try.prog 14 #[.agg #[.int .i64 x, .int .i64 y], .agg #[.int .i64 p, .int .i64 q]] w (Gives (.tuple #[.agg #[.int .i64 e1, .int .i64 e2], .agg #[.int .i64 f1, .int .i64 f2], .int .i64 h]) w))) (H4 : Hid (∀ w, Calls Try.prog 14 #[.agg #[.int .i64 u, .int .i64 v], .agg #[.int .i64 p, .int .i64 q]] w (Gives (.tuple #[.agg #[.int .i64 g1, .int .i64 g2], .agg #[.int .i64 k1, .int .i64 k2], .int .i64 i]) w))) (H5 : Hid (∀ w, Calls Try.prog 14 #[.agg #[.int .i64 c, .int .i64 d], .agg #[.int .i64 p, .int .i64 q]] w (Gives (.tuple #[.agg #[.int .i64 j1, .int .i64 j2], .agg #[.int .i64 0, .int .i64 0], .int .i64 0]) w))) (c0 : 0 < c) (d0 : 0 ≤ d) (cb : (c == 0) = false)
    (h1 : (h != 0) = false) (h2 : (i != 0) = false) (z1 : f1 = 0) (z2 : f2 = 0) (z3 : k1 = 0) (z4 : k2 = 0) : Calls Try.prog 5 #[.agg #[.int .i64 x, .int .i64 y], .agg #[.int .i64 u, .int .i64 v], .agg #[.int .i64 p, .int .i64 q]] w (Gives (.bool true) w) := by
  subst z1; subst z2; subst z3; subst z4
  go_enter Try.func5, Try.ntmps5
  go_wp2_with (fail)
  obtain ⟨kb, oD0, oD1, oD2⟩ := boxes3 23 (.int .i64 x) (.int .i64 y) (.int .i64 u) (.int .i64 v) (.int .i64 p) (.int .i64 q) w
  have HB_1 := Lib.hid kb
  have D0_1 := Lib.hid oD0
  have D1_1 := Lib.hid oD1
  have D2_1 := Lib.hid oD2
  clear kb oD0 oD1 oD2
  generalize ((w.alloc (.cells #[.int .i64 x, .int .i64 y] 23)).alloc (.cells #[.int .i64 u, .int .i64 v] 23)).alloc (.cells #[.int .i64 p, .int .i64 q] 23) = v1 at *
  refine (awake_any _).mono ?_
  rintro e w1_ ⟨rfl, hb⟩
  have D0_2 := Lib.hid (D0_1.out.next hb)
  have D1_2 := Lib.hid (D1_1.out.next hb)
  have D2_2 := Lib.hid (D2_1.out.next hb)
  have HB_2 := Lib.hid (Below.next HB_1.out hb)
  clear D0_1 D1_1 D2_1 HB_1
  clear hb
  obtain ⟨D00, D01, D02, D03⟩ := D0_2.out
  obtain ⟨D10, D11, D12, D13⟩ := D1_2.out
  go_wp2_with (fail)
  clear D00 D01 D02 D03 D10 D11 D12 D13
  refine (HC.out _).mono ?_
  rintro e w2_ ⟨rfl, hb⟩
  have D0_3 := Lib.hid (D0_2.out.next hb)
  have D1_3 := Lib.hid (D1_2.out.next hb)
  have D2_3 := Lib.hid (D2_2.out.next hb)
  have HB_3 := Lib.hid (Below.next HB_2.out hb)
  clear D0_2 D1_2 D2_2 HB_2
  clear hb
  obtain ⟨kb, oK⟩ := boxes1 23 (.int .i64 c) (.int .i64 d) w2_
  have D0_4 := Lib.hid (D0_3.out.next kb)
  have D1_4 := Lib.hid (D1_3.out.next kb)
  have D2_4 := Lib.hid (D2_3.out.next kb)
  have HB_4 := Lib.hid (Below.next HB_3.out kb)
  clear D0_3 D1_3 D2_3 HB_3
  have K_4 := Lib.hid oK
  clear kb oK
  obtain ⟨K0, K1, K2, K3⟩ := K_4.out
  obtain ⟨D00, D01, D02, D03⟩ := D0_4.out
  go_wp2_with (fail)
  generalize w2_.alloc (.cells #[.int .i64 c, .int .i64 d] 23) = v4 at *
  generalize w2_.heap.size = g4 at *
  clear K0 K1 K2 K3 D00 D01 D02 D03
  refine (H1.out _).mono ?_
  rintro e w4_ ⟨rfl, hb⟩
  have D0_5 := Lib.hid (D0_4.out.next hb)
  have D1_5 := Lib.hid (D1_4.out.next hb)
  have D2_5 := Lib.hid (D2_4.out.next hb)
  have K_5 := Lib.hid (K_4.out.next hb)
  have HB_5 := Lib.hid (Below.next HB_4.out hb)
  clear D0_4 D1_4 D2_4 K_4 HB_4
  clear hb
  obtain ⟨kb, oQ1, oR1⟩ := boxes2 23 (.int .i64 a1) (.int .i64 a2) (.int .i64 0) (.int .i64 0) w4_
  have D0_6 := Lib.hid (D0_5.out.next kb)
  have D1_6 := Lib.hid (D1_5.out.next kb)
  have D2_6 := Lib.hid (D2_5.out.next kb)
  have K_6 := Lib.hid (K_5.out.next kb)
  have HB_6 := Lib.hid (Below.next HB_5.out kb)
  clear D0_5 D1_5 D2_5 K_5 HB_5
  have Q1_6 := Lib.hid oQ1
  have R1_6 := Lib.hid oR1
  clear kb oQ1 oR1
  obtain ⟨D10, D11, D12, D13⟩ := D1_6.out
  obtain ⟨K0, K1, K2, K3⟩ := K_6.out
  go_wp2_with (fail)
  generalize (w4_.alloc (.cells #[.int .i64 a1, .int .i64 a2] 23)).alloc (.cells #[.int .i64 0, .int .i64 0] 23) = v6 at *
  generalize w4_.heap.size = g6 at *
  clear D10 D11 D12 D13 K0 K1 K2 K3
  refine (H2.out _).mono ?_
  rintro e w6_ ⟨rfl, hb⟩
  clear Q1_6
  have D0_7 := Lib.hid (D0_6.out.next hb)
  have D1_7 := Lib.hid (D1_6.out.next hb)
  have D2_7 := Lib.hid (D2_6.out.next hb)
  have K_7 := Lib.hid (K_6.out.next hb)
  have R1_7 := Lib.hid (R1_6.out.next hb)
  have HB_7 := Lib.hid (Below.next HB_6.out hb)
  clear D0_6 D1_6 D2_6 K_6 R1_6 HB_6
  clear hb
  obtain ⟨kb, oQ2, oR2⟩ := boxes2 23 (.int .i64 b1) (.int .i64 b2) (.int .i64 0) (.int .i64 0) w6_
  have D0_8 := Lib.hid (D0_7.out.next kb)
  have D1_8 := Lib.hid (D1_7.out.next kb)
  have D2_8 := Lib.hid (D2_7.out.next kb)
  have K_8 := Lib.hid (K_7.out.next kb)
  have R1_8 := Lib.hid (R1_7.out.next kb)
  have HB_8 := Lib.hid (Below.next HB_7.out kb)
  clear D0_7 D1_7 D2_7 K_7 R1_7 HB_7
  have Q2_8 := Lib.hid oQ2
  have R2_8 := Lib.hid oR2
  clear kb oQ2 oR2
  obtain ⟨R10, R11, R12, R13⟩ := R1_8.out
  obtain ⟨R20, R21, R22, R23⟩ := R2_8.out
  obtain ⟨K0, K1, K2, K3⟩ := K_8.out
  obtain ⟨D00, D01, D02, D03⟩ := D0_8.out
  obtain ⟨D20, D21, D22, D23⟩ := D2_8.out
  go_wp2_with (fail)
  generalize (w6_.alloc (.cells #[.int .i64 b1, .int .i64 b2] 23)).alloc (.cells #[.int .i64 0, .int .i64 0] 23) = v8 at *
  generalize w6_.heap.size = g8 at *
  clear R10 R11 R12 R13 R20 R21 R22 R23 K0 K1 K2 K3 D00 D01 D02 D03 D20 D21 D22 D23
  refine (H3.out _).mono ?_
  rintro e w8_ ⟨rfl, hb⟩
  clear Q2_8
  clear R1_8
  clear R2_8
  clear D0_8
  have D1_9 := Lib.hid (D1_8.out.next hb)
  have D2_9 := Lib.hid (D2_8.out.next hb)
  have K_9 := Lib.hid (K_8.out.next hb)
  have HB_9 := Lib.hid (Below.next HB_8.out hb)
  clear D1_8 D2_8 K_8 HB_8
  clear hb
  obtain ⟨kb, oQ3, oR3⟩ := boxes2 23 (.int .i64 e1) (.int .i64 e2) (.int .i64 0) (.int .i64 0) w8_
  have D1_10 := Lib.hid (D1_9.out.next kb)
  have D2_10 := Lib.hid (D2_9.out.next kb)
  have K_10 := Lib.hid (K_9.out.next kb)
  have HB_10 := Lib.hid (Below.next HB_9.out kb)
  clear D1_9 D2_9 K_9 HB_9
  have Q3_10 := Lib.hid oQ3
  have R3_10 := Lib.hid oR3
  clear kb oQ3 oR3
  obtain ⟨D10, D11, D12, D13⟩ := D1_10.out
  obtain ⟨D20, D21, D22, D23⟩ := D2_10.out
  go_wp2_with (fail)
  generalize (w8_.alloc (.cells #[.int .i64 e1, .int .i64 e2] 23)).alloc (.cells #[.int .i64 0, .int .i64 0] 23) = v10 at *
  generalize w8_.heap.size = g10 at *
  clear D10 D11 D12 D13 D20 D21 D22 D23
  refine (H4.out _).mono ?_
  rintro e w10_ ⟨rfl, hb⟩
  have D1_11 := Lib.hid (D1_10.out.next hb)
  have D2_11 := Lib.hid (D2_10.out.next hb)
  have K_11 := Lib.hid (K_10.out.next hb)
  have Q3_11 := Lib.hid (Q3_10.out.next hb)
  have R3_11 := Lib.hid (R3_10.out.next hb)
  have HB_11 := Lib.hid (Below.next HB_10.out hb)
  clear D1_10 D2_10 K_10 Q3_10 R3_10 HB_10
  clear hb
  obtain ⟨kb, oQ4, oR4⟩ := boxes2 23 (.int .i64 g1) (.int .i64 g2) (.int .i64 0) (.int .i64 0) w10_
  have D1_12 := Lib.hid (D1_11.out.next kb)
  have D2_12 := Lib.hid (D2_11.out.next kb)
  have K_12 := Lib.hid (K_11.out.next kb)
  have Q3_12 := Lib.hid (Q3_11.out.next kb)
  have R3_12 := Lib.hid (R3_11.out.next kb)
  have HB_12 := Lib.hid (Below.next HB_11.out kb)
  clear D1_11 D2_11 K_11 Q3_11 R3_11 HB_11
  have Q4_12 := Lib.hid oQ4
  have R4_12 := Lib.hid oR4
  clear kb oQ4 oR4
  obtain ⟨R30, R31, R32, R33⟩ := R3_12.out
  obtain ⟨R40, R41, R42, R43⟩ := R4_12.out
  obtain ⟨K0, K1, K2, K3⟩ := K_12.out
  obtain ⟨D20, D21, D22, D23⟩ := D2_12.out
  go_wp2_with (fail)
  generalize (w10_.alloc (.cells #[.int .i64 g1, .int .i64 g2] 23)).alloc (.cells #[.int .i64 0, .int .i64 0] 23) = v12 at *
  generalize w10_.heap.size = g12 at *
  clear R30 R31 R32 R33 R40 R41 R42 R43 K0 K1 K2 K3 D20 D21 D22 D23
  refine (H5.out _).mono ?_
  rintro e w12_ ⟨rfl, hb⟩
  have D1_13 := Lib.hid (D1_12.out.next hb)
  have D2_13 := Lib.hid (D2_12.out.next hb)
  have K_13 := Lib.hid (K_12.out.next hb)
  have Q3_13 := Lib.hid (Q3_12.out.next hb)
  have R3_13 := Lib.hid (R3_12.out.next hb)
  have Q4_13 := Lib.hid (Q4_12.out.next hb)
  have R4_13 := Lib.hid (R4_12.out.next hb)
  have HB_13 := Lib.hid (Below.next HB_12.out hb)
  clear D1_12 D2_12 K_12 Q3_12 R3_12 Q4_12 R4_12 HB_12
  clear hb
  obtain ⟨kb, oQ5, oR5⟩ := boxes2 23 (.int .i64 j1) (.int .i64 j2) (.int .i64 0) (.int .i64 0) w12_
  have D1_14 := Lib.hid (D1_13.out.next kb)
  have D2_14 := Lib.hid (D2_13.out.next kb)
  have K_14 := Lib.hid (K_13.out.next kb)
  have Q3_14 := Lib.hid (Q3_13.out.next kb)
  have R3_14 := Lib.hid (R3_13.out.next kb)
  have Q4_14 := Lib.hid (Q4_13.out.next kb)
  have R4_14 := Lib.hid (R4_13.out.next kb)
  have HB_14 := Lib.hid (Below.next HB_13.out kb)
  clear D1_13 D2_13 K_13 Q3_13 R3_13 Q4_13 R4_13 HB_13
  have Q5_14 := Lib.hid oQ5
  have R5_14 := Lib.hid oR5
  clear kb oQ5 oR5
  obtain ⟨R50, R51, R52, R53⟩ := R5_14.out
  go_wp2_with (fail)
  generalize (w12_.alloc (.cells #[.int .i64 j1, .int .i64 j2] 23)).alloc (.cells #[.int .i64 0, .int .i64 0] 23) = v14 at *
  generalize w12_.heap.size = g14 at *
  go_ret
  exact ⟨rfl, HB_14.out⟩
theorem all (x y u v p q : Int) (w : World) : Calls Try.prog 5 #[.agg #[.int .i64 x, .int .i64 y], .agg #[.int .i64 u, .int .i64 v], .agg #[.int .i64 p, .int .i64 q]] w (Gives (.bool true) w) := by
  by_cases hr : (rb ⟨x, y⟩ && rb ⟨u, v⟩) = true
  · have h12 := hr; rw [Bool.and_eq_true] at h12
    obtain ⟨ha, hb⟩ := h12
    have hC := common_yes ha hb
    obtain ⟨⟨v1, v2⟩, v3, v4⟩ := Pt.cg_spec _ ⟨x, y⟩ ⟨u, v⟩ (Nat.lt_succ_self _)
    have vr := Pt.cg_right _ ⟨x, y⟩ ⟨u, v⟩ (Nat.lt_succ_self _) ha hb
    generalize Pt.cg ⟨x, y⟩ ⟨u, v⟩ = g at *
    obtain ⟨c, d⟩ := g
    by_cases hz : (⟨c, d⟩ : Pt) = Pt.zero
    · rw [hz] at v1 v2
      have e1 := v1.of_zero
      have e2 := v2.of_zero
      injection hz with z1 z2; injection e1 with z3 z4; injection e2 with z5 z6
      subst z1; subst z2; subst z3; subst z4; subst z5; subst z6
      exact none_ w (Lib.hid hC)
    · have hf : 0 < c ∧ 0 ≤ d := v4.resolve_right hz
      have cb : (c == 0) = false := beq_eq_false_iff_ne.2 (by omega)
      have H1 := div_yes ha vr hz
      have H2 := div_yes hb vr hz
      rw [Pt.rest_zero hz v1] at H1
      rw [Pt.rest_zero hz v2] at H2
      by_cases hd : rb ⟨p, q⟩ = true
      · by_cases h0 : (⟨p, q⟩ : Pt) = Pt.zero
        · injection h0 with z1 z2
          subst z1; subst z2
          exact early w (Lib.hid hC) (Lib.hid H1) (Lib.hid H2) (Lib.hid (div_zero x y ha)) (Lib.hid (div_zero u v hb)) hf.1 hf.2 cb (.inl (by decide))
        · have H3 := div_yes ha hd h0
          have H4 := div_yes hb hd h0
          by_cases r1 : Pt.rest ⟨x, y⟩ ⟨p, q⟩ = Pt.zero
          · have f1 : (Pt.rest ⟨x, y⟩ ⟨p, q⟩).x = 0 := congrArg Pt.x r1
            have f2 : (Pt.rest ⟨x, y⟩ ⟨p, q⟩).y = 0 := congrArg Pt.y r1
            by_cases r2 : Pt.rest ⟨u, v⟩ ⟨p, q⟩ = Pt.zero
            · have k1 : (Pt.rest ⟨u, v⟩ ⟨p, q⟩).x = 0 := congrArg Pt.x r2
              have k2 : (Pt.rest ⟨u, v⟩ ⟨p, q⟩).y = 0 := congrArg Pt.y r2
              have H5 := div_yes vr hd h0
              rw [Pt.rest_zero h0 (v3 ⟨p, q⟩ (Pt.dv_of_rest r1) (Pt.dv_of_rest r2))] at H5
              exact late w (Lib.hid hC) (Lib.hid H1) (Lib.hid H2) (Lib.hid H3) (Lib.hid H4) (Lib.hid H5) hf.1 hf.2 cb (by decide) (by decide) f1 f2 k1 k2
            · exact apart_ w (Lib.hid hC) (Lib.hid H1) (Lib.hid H2) (Lib.hid H3) (Lib.hid H4) hf.1 hf.2 cb (by decide) (by decide) f1 f2 (not_zero r2)
          · rcases not_zero r1 with n1 | ⟨n1, n2⟩
            · exact early w (Lib.hid hC) (Lib.hid H1) (Lib.hid H2) (Lib.hid H3) (Lib.hid H4) hf.1 hf.2 cb (.inr (.inr (.inl ⟨by decide, by decide, n1⟩)))
            · exact early w (Lib.hid hC) (Lib.hid H1) (Lib.hid H2) (Lib.hid H3) (Lib.hid H4) hf.1 hf.2 cb (.inr (.inr (.inr ⟨by decide, by decide, n1, n2⟩)))
      · rw [Bool.not_eq_true] at hd
        exact early w (Lib.hid hC) (Lib.hid H1) (Lib.hid H2) (Lib.hid (div_bad x y p q (by rw [hd, Bool.and_false]))) (Lib.hid (div_bad u v p q (by rw [hd, Bool.and_false]))) hf.1 hf.2 cb (.inl (by decide))
  · exact bad w (Lib.hid (common_bad x y u v (by simpa using hr)))
/-! ### STEP 1: THE WALK: the Go text returns true. 'Grown w w'': the world has at most new blocks (Derived/RowKit3.lean). Part the cases AHEAD of 'go_enter' where a test parts the walk; take each callee by a contract of your own. -/
theorem walk (x0 y0 : Int) (x1 y1 : Int) (x2 y2 : Int) (wx0 : (Lit.int .i64 x0).wf = true) (wy0 : (Lit.int .i64 y0).wf = true) (wx1 : (Lit.int .i64 x1).wf = true) (wy1 : (Lit.int .i64 y1).wf = true) (wx2 : (Lit.int .i64 x2).wf = true) (wy2 : (Lit.int .i64 y2).wf = true) (w : World) :
    Calls Try.prog 5 #[.agg #[.int .i64 x0, .int .i64 y0], .agg #[.int .i64 x1, .int .i64 y1], .agg #[.int .i64 x2, .int .i64 y2]] w fun e w' => e = .returned (.bool true) ∧ Below w.heap.size w w' := by
  exact all x0 y0 x1 y1 x2 y2 w

/-! ### THE ROW's STEP: WRITTEN OUT: LEAVE IT -/
set_option maxRecDepth 100000 in
theorem lifted (os : Os) (started : os.Started) (H : Type) (enc : TypeId × Value → H) :
    ReturnsInHanded {} Try.checked os 5 .any (Rows.gaussCommonSpec.pre6 enc Try.prog Try.f5 Rows.gaussCommonRow.domain false) (Rows.gaussCommonSpec.post enc Try.prog Try.f5 false true false false) := by
  refine returnsInHanded_of_change (C := Try.checked) own started (by kernel_rfl) Try.func5
    (ChangeSpec.witness6 (enc := enc) (C := Try.checked) false ⟨#[], #[.agg #[.int .i64 0, .int .i64 0], .agg #[.int .i64 0, .int .i64 0], .agg #[.int .i64 0, .int .i64 0]], []⟩ 8 (by kernel_rfl) (by kernel_rfl) (by kernel_rfl) (by kernel_rfl)) ?_
  intro W base args ds gs before hval0 hW hcnd _
  have hval : ∀ (j : Nat) t v, Try.f5.params[j]? = some t → args[j]? = some v → Value.okWide Try.prog W .any base t v := hval0
  have hW' := hW
  obtain ⟨p, q, hA0, hV, rfl, hfz, hnd⟩ := hW
  have hA : DataW.TrodAll enc Try.prog W 0 (fun _ => true) true Try.f5.params.toList args.toList ds p := hA0
  rw [Try.params5] at hA hval
  obtain ⟨v0, vs0, d0, ds0, p0, q0, hargs, rfl, rfl, h0, r0⟩ := trodAll_cons hA
  obtain ⟨v1, vs1, d1, ds1, p1, q1, rfl, rfl, rfl, h1, r1⟩ := trodAll_cons r0
  obtain ⟨v2, vs2, d2, ds2, p2, q2, rfl, rfl, rfl, h2, r2⟩ := trodAll_cons r1
  obtain ⟨rfl, rfl, rfl⟩ := trodAll_nil r2
  obtain rfl : args = #[v0, v1, v2] := by cases args; simp_all
  obtain ⟨rfl, rfl⟩ := trodVars_none hV
  obtain ⟨x0, y0, rfl, rfl, rfl, wx0, wy0⟩ := Ga.spot_of (hval 0 23 v0 rfl rfl) h0
  obtain ⟨x1, y1, rfl, rfl, rfl, wx1, wy1⟩ := Ga.spot_of (hval 1 23 v1 rfl rfl) h1
  obtain ⟨x2, y2, rfl, rfl, rfl, wx2, wy2⟩ := Ga.spot_of (hval 2 23 v2 rfl rfl) h2
  clear hA0 hval0
  simp only [List.append_nil] at hW'
  refine (walk x0 y0 x1 y1 x2 y2 wx0 wy0 wx1 wy1 wx2 wy2 W).mono fun e W' ⟨he, bel⟩ => ?_
  subst he
  exact ⟨_, rfl, _, _, _, [], _, [], hW', trodAll_mk1 (shut_bool Try.underlying4 _), (trodAll_cons_mk (Ga.shut_spot wx0 wy0) (trodAll_cons_mk (Ga.shut_spot wx1 wy1) (trodAll_cons_mk (Ga.shut_spot wx2 wy2) trodAll_mk0))), rfl, bel.frame _, fun h => by cases h⟩

theorem over : Rows.gaussCommonRow.holds Try.pinned (OpenSpec.ofChange Rows.gaussCommonSpec) :=
  OpenClaim.holds_of_wide 5 Try.f5 rfl rfl rfl rfl rfl rfl rfl ⟨rfl, rfl, rfl, rfl, rfl⟩ rfl rfl rfl rfl rfl (by kernel_rfl) Try.func5 (by kernel_rfl)
    (of_decide_eq_true (by kernel_rfl)) (by unfold Func.isWrapper; first | (rw [if_pos (by decide +kernel)]; kernel_rfl) | (rw [if_neg (by decide +kernel)]; exact ⟨rfl, rfl⟩))
    (fun os started H enc _ => lifted os started H enc)

/-- ████ THE STATEMENT ████ -/
theorem proved : Rows.GaussCommonSaid :=
  over
#print axioms proved
end Go.Proofs.Ytjgaaeomfilhoaa.gaussCommon
