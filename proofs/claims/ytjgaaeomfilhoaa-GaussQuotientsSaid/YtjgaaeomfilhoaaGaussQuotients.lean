/-
  Proved: for every input the law GaussQuotients returns true, and leaves its arguments as they were. No condition.
-/
import Derived.Test.YtjgaaeomfilhoaaRows
import Derived.WalkKit
import Derived.ProofKit
import Derived.OpenShut
import Derived.ShutString
import Derived.Test.YtjgaaeomfilhoaaGaRef3
namespace Go.Proofs.Ytjgaaeomfilhoaa.gaussQuotients
open Go.ChangeShapes Go.WideShapes Go.ChangeAt Go.RowKit
open Go.ChangeMaps (open_string shut_string)
set_option linter.unusedVariables false      -- a walk need not use every 'w<i>' (that an integer argument fits its kind)

theorem own : ownKnob Try.prog.godebug = none := by kernel_rfl

open Go.Proofs.Ytjgaaeomfilhoaa.Ga Go.Proofs.Ytjgaaeomfilhoaa.Ov
set_option maxHeartbeats 2000000 in
theorem bad1 {x y u v : Int} (w : World) (HD : Hid (∀ w, Calls Try.prog 14 #[.agg #[.int .i64 x, .int .i64 y], .agg #[.int .i64 u, .int .i64 v]] w (Gives (.tuple #[.agg #[.int .i64 0, .int .i64 0], .agg #[.int .i64 0, .int .i64 0], .int .i64 14]) w))) (HC : Hid (∀ w, Calls Try.prog 15 #[.agg #[.int .i64 x, .int .i64 y], .agg #[.int .i64 u, .int .i64 v]] w (Gives (.tuple #[.agg #[.int .i64 0, .int .i64 0], .int .i64 14]) w))) (HR : Hid (∀ w, Calls Try.prog 16 #[.agg #[.int .i64 x, .int .i64 y]] w (Gives (.bool false) w))) : Calls Try.prog 7 #[.agg #[.int .i64 x, .int .i64 y], .agg #[.int .i64 u, .int .i64 v]] w (Gives (.bool true) w) := by
  go_enter Try.func7, Try.ntmps7
  go_wp2_with (fail)
  obtain ⟨kb, oD0, oD1⟩ := boxes2 23 (.int .i64 x) (.int .i64 y) (.int .i64 u) (.int .i64 v) w
  have HB_1 := Lib.hid kb
  have D0_1 := Lib.hid oD0
  have D1_1 := Lib.hid oD1
  clear kb oD0 oD1
  generalize (w.alloc (.cells #[.int .i64 x, .int .i64 y] 23)).alloc (.cells #[.int .i64 u, .int .i64 v] 23) = v1 at *
  refine (awake_any _).mono ?_
  rintro e w1_ ⟨rfl, hb⟩
  have D0_2 := Lib.hid (D0_1.out.next hb)
  have D1_2 := Lib.hid (D1_1.out.next hb)
  have HB_2 := Lib.hid (Below.next HB_1.out hb)
  clear D0_1 D1_1 HB_1
  clear hb
  obtain ⟨D00, D01, D02, D03⟩ := D0_2.out
  obtain ⟨D10, D11, D12, D13⟩ := D1_2.out
  go_wp2_with (fail)
  clear D00 D01 D02 D03 D10 D11 D12 D13
  refine (HD.out _).mono ?_
  rintro e w2_ ⟨rfl, hb⟩
  have D0_3 := Lib.hid (D0_2.out.next hb)
  have D1_3 := Lib.hid (D1_2.out.next hb)
  have HB_3 := Lib.hid (Below.next HB_2.out hb)
  clear D0_2 D1_2 HB_2
  clear hb
  obtain ⟨kb, oQ, oR⟩ := boxes2 23 (.int .i64 0) (.int .i64 0) (.int .i64 0) (.int .i64 0) w2_
  have D0_4 := Lib.hid (D0_3.out.next kb)
  have D1_4 := Lib.hid (D1_3.out.next kb)
  have HB_4 := Lib.hid (Below.next HB_3.out kb)
  clear D0_3 D1_3 HB_3
  have Q_4 := Lib.hid oQ
  have R_4 := Lib.hid oR
  clear kb oQ oR
  obtain ⟨D00, D01, D02, D03⟩ := D0_4.out
  obtain ⟨D10, D11, D12, D13⟩ := D1_4.out
  go_wp2_with (fail)
  generalize (w2_.alloc (.cells #[.int .i64 0, .int .i64 0] 23)).alloc (.cells #[.int .i64 0, .int .i64 0] 23) = v4 at *
  generalize w2_.heap.size = g4 at *
  clear D00 D01 D02 D03 D10 D11 D12 D13
  refine (HC.out _).mono ?_
  rintro e w4_ ⟨rfl, hb⟩
  clear Q_4
  clear R_4
  have D0_5 := Lib.hid (D0_4.out.next hb)
  have D1_5 := Lib.hid (D1_4.out.next hb)
  have HB_5 := Lib.hid (Below.next HB_4.out hb)
  clear D0_4 D1_4 HB_4
  clear hb
  obtain ⟨kb, oK⟩ := boxes1 23 (.int .i64 0) (.int .i64 0) w4_
  have D0_6 := Lib.hid (D0_5.out.next kb)
  have D1_6 := Lib.hid (D1_5.out.next kb)
  have HB_6 := Lib.hid (Below.next HB_5.out kb)
  clear D0_5 D1_5 HB_5
  have K_6 := Lib.hid oK
  clear kb oK
  obtain ⟨D00, D01, D02, D03⟩ := D0_6.out
  go_wp2_with (fail)
  generalize w4_.alloc (.cells #[.int .i64 0, .int .i64 0] 23) = v6 at *
  generalize w4_.heap.size = g6 at *
  clear D00 D01 D02 D03
  refine (HR.out _).mono ?_
  rintro e w6_ ⟨rfl, hb⟩
  have D0_7 := Lib.hid (D0_6.out.next hb)
  have D1_7 := Lib.hid (D1_6.out.next hb)
  have K_7 := Lib.hid (K_6.out.next hb)
  have HB_7 := Lib.hid (Below.next HB_6.out hb)
  clear D0_6 D1_6 K_6 HB_6
  clear hb
  go_wp2_with (fail)
  go_ret
  exact ⟨rfl, HB_7.out⟩
set_option maxHeartbeats 2000000 in
theorem bad2 {x y u v : Int} (w : World) (HD : Hid (∀ w, Calls Try.prog 14 #[.agg #[.int .i64 x, .int .i64 y], .agg #[.int .i64 u, .int .i64 v]] w (Gives (.tuple #[.agg #[.int .i64 0, .int .i64 0], .agg #[.int .i64 0, .int .i64 0], .int .i64 14]) w))) (HC : Hid (∀ w, Calls Try.prog 15 #[.agg #[.int .i64 x, .int .i64 y], .agg #[.int .i64 u, .int .i64 v]] w (Gives (.tuple #[.agg #[.int .i64 0, .int .i64 0], .int .i64 14]) w))) (HR : Hid (∀ w, Calls Try.prog 16 #[.agg #[.int .i64 x, .int .i64 y]] w (Gives (.bool true) w))) (HS : Hid (∀ w, Calls Try.prog 16 #[.agg #[.int .i64 u, .int .i64 v]] w (Gives (.bool false) w))) : Calls Try.prog 7 #[.agg #[.int .i64 x, .int .i64 y], .agg #[.int .i64 u, .int .i64 v]] w (Gives (.bool true) w) := by
  go_enter Try.func7, Try.ntmps7
  go_wp2_with (fail)
  obtain ⟨kb, oD0, oD1⟩ := boxes2 23 (.int .i64 x) (.int .i64 y) (.int .i64 u) (.int .i64 v) w
  have HB_1 := Lib.hid kb
  have D0_1 := Lib.hid oD0
  have D1_1 := Lib.hid oD1
  clear kb oD0 oD1
  generalize (w.alloc (.cells #[.int .i64 x, .int .i64 y] 23)).alloc (.cells #[.int .i64 u, .int .i64 v] 23) = v1 at *
  refine (awake_any _).mono ?_
  rintro e w1_ ⟨rfl, hb⟩
  have D0_2 := Lib.hid (D0_1.out.next hb)
  have D1_2 := Lib.hid (D1_1.out.next hb)
  have HB_2 := Lib.hid (Below.next HB_1.out hb)
  clear D0_1 D1_1 HB_1
  clear hb
  obtain ⟨D00, D01, D02, D03⟩ := D0_2.out
  obtain ⟨D10, D11, D12, D13⟩ := D1_2.out
  go_wp2_with (fail)
  clear D00 D01 D02 D03 D10 D11 D12 D13
  refine (HD.out _).mono ?_
  rintro e w2_ ⟨rfl, hb⟩
  have D0_3 := Lib.hid (D0_2.out.next hb)
  have D1_3 := Lib.hid (D1_2.out.next hb)
  have HB_3 := Lib.hid (Below.next HB_2.out hb)
  clear D0_2 D1_2 HB_2
  clear hb
  obtain ⟨kb, oQ, oR⟩ := boxes2 23 (.int .i64 0) (.int .i64 0) (.int .i64 0) (.int .i64 0) w2_
  have D0_4 := Lib.hid (D0_3.out.next kb)
  have D1_4 := Lib.hid (D1_3.out.next kb)
  have HB_4 := Lib.hid (Below.next HB_3.out kb)
  clear D0_3 D1_3 HB_3
  have Q_4 := Lib.hid oQ
  have R_4 := Lib.hid oR
  clear kb oQ oR
  obtain ⟨D00, D01, D02, D03⟩ := D0_4.out
  obtain ⟨D10, D11, D12, D13⟩ := D1_4.out
  go_wp2_with (fail)
  generalize (w2_.alloc (.cells #[.int .i64 0, .int .i64 0] 23)).alloc (.cells #[.int .i64 0, .int .i64 0] 23) = v4 at *
  generalize w2_.heap.size = g4 at *
  clear D00 D01 D02 D03 D10 D11 D12 D13
  refine (HC.out _).mono ?_
  rintro e w4_ ⟨rfl, hb⟩
  clear Q_4
  clear R_4
  have D0_5 := Lib.hid (D0_4.out.next hb)
  have D1_5 := Lib.hid (D1_4.out.next hb)
  have HB_5 := Lib.hid (Below.next HB_4.out hb)
  clear D0_4 D1_4 HB_4
  clear hb
  obtain ⟨kb, oK⟩ := boxes1 23 (.int .i64 0) (.int .i64 0) w4_
  have D0_6 := Lib.hid (D0_5.out.next kb)
  have D1_6 := Lib.hid (D1_5.out.next kb)
  have HB_6 := Lib.hid (Below.next HB_5.out kb)
  clear D0_5 D1_5 HB_5
  have K_6 := Lib.hid oK
  clear kb oK
  obtain ⟨D00, D01, D02, D03⟩ := D0_6.out
  go_wp2_with (fail)
  generalize w4_.alloc (.cells #[.int .i64 0, .int .i64 0] 23) = v6 at *
  generalize w4_.heap.size = g6 at *
  clear D00 D01 D02 D03
  refine (HR.out _).mono ?_
  rintro e w6_ ⟨rfl, hb⟩
  have D0_7 := Lib.hid (D0_6.out.next hb)
  have D1_7 := Lib.hid (D1_6.out.next hb)
  have K_7 := Lib.hid (K_6.out.next hb)
  have HB_7 := Lib.hid (Below.next HB_6.out hb)
  clear D0_6 D1_6 K_6 HB_6
  clear hb
  obtain ⟨D10, D11, D12, D13⟩ := D1_7.out
  go_wp2_with (fail)
  clear D10 D11 D12 D13
  refine (HS.out _).mono ?_
  rintro e w7_ ⟨rfl, hb⟩
  have D0_8 := Lib.hid (D0_7.out.next hb)
  have D1_8 := Lib.hid (D1_7.out.next hb)
  have K_8 := Lib.hid (K_7.out.next hb)
  have HB_8 := Lib.hid (Below.next HB_7.out hb)
  clear D0_7 D1_7 K_7 HB_7
  clear hb
  go_wp2_with (fail)
  go_ret
  exact ⟨rfl, HB_8.out⟩
set_option maxHeartbeats 2000000 in
theorem zero {x y c1 c2 : Int} (w : World) (HD : Hid (∀ w, Calls Try.prog 14 #[.agg #[.int .i64 x, .int .i64 y], .agg #[.int .i64 0, .int .i64 0]] w (Gives (.tuple #[.agg #[.int .i64 0, .int .i64 0], .agg #[.int .i64 0, .int .i64 0], .int .i64 16]) w))) (HC : Hid (∀ w, Calls Try.prog 15 #[.agg #[.int .i64 x, .int .i64 y], .agg #[.int .i64 0, .int .i64 0]] w (Gives (.tuple #[.agg #[.int .i64 c1, .int .i64 c2], .int .i64 0]) w))) (HR : Hid (∀ w, Calls Try.prog 16 #[.agg #[.int .i64 x, .int .i64 y]] w (Gives (.bool true) w))) (HS : Hid (∀ w, Calls Try.prog 16 #[.agg #[.int .i64 0, .int .i64 0]] w (Gives (.bool true) w))) (HF : Hid (∀ w, Calls Try.prog 24 #[.agg #[.int .i64 x, .int .i64 y], .agg #[.int .i64 0, .int .i64 0]] w (Gives (.agg #[.int .i64 c1, .int .i64 c2]) w))) : Calls Try.prog 7 #[.agg #[.int .i64 x, .int .i64 y], .agg #[.int .i64 0, .int .i64 0]] w (Gives (.bool true) w) := by
  go_enter Try.func7, Try.ntmps7
  go_wp2_with (fail)
  obtain ⟨kb, oD0, oD1⟩ := boxes2 23 (.int .i64 x) (.int .i64 y) (.int .i64 0) (.int .i64 0) w
  have HB_1 := Lib.hid kb
  have D0_1 := Lib.hid oD0
  have D1_1 := Lib.hid oD1
  clear kb oD0 oD1
  generalize (w.alloc (.cells #[.int .i64 x, .int .i64 y] 23)).alloc (.cells #[.int .i64 0, .int .i64 0] 23) = v1 at *
  refine (awake_any _).mono ?_
  rintro e w1_ ⟨rfl, hb⟩
  have D0_2 := Lib.hid (D0_1.out.next hb)
  have D1_2 := Lib.hid (D1_1.out.next hb)
  have HB_2 := Lib.hid (Below.next HB_1.out hb)
  clear D0_1 D1_1 HB_1
  clear hb
  obtain ⟨D00, D01, D02, D03⟩ := D0_2.out
  obtain ⟨D10, D11, D12, D13⟩ := D1_2.out
  go_wp2_with (fail)
  clear D00 D01 D02 D03 D10 D11 D12 D13
  refine (HD.out _).mono ?_
  rintro e w2_ ⟨rfl, hb⟩
  have D0_3 := Lib.hid (D0_2.out.next hb)
  have D1_3 := Lib.hid (D1_2.out.next hb)
  have HB_3 := Lib.hid (Below.next HB_2.out hb)
  clear D0_2 D1_2 HB_2
  clear hb
  obtain ⟨kb, oQ, oR⟩ := boxes2 23 (.int .i64 0) (.int .i64 0) (.int .i64 0) (.int .i64 0) w2_
  have D0_4 := Lib.hid (D0_3.out.next kb)
  have D1_4 := Lib.hid (D1_3.out.next kb)
  have HB_4 := Lib.hid (Below.next HB_3.out kb)
  clear D0_3 D1_3 HB_3
  have Q_4 := Lib.hid oQ
  have R_4 := Lib.hid oR
  clear kb oQ oR
  obtain ⟨D00, D01, D02, D03⟩ := D0_4.out
  obtain ⟨D10, D11, D12, D13⟩ := D1_4.out
  go_wp2_with (fail)
  generalize (w2_.alloc (.cells #[.int .i64 0, .int .i64 0] 23)).alloc (.cells #[.int .i64 0, .int .i64 0] 23) = v4 at *
  generalize w2_.heap.size = g4 at *
  clear D00 D01 D02 D03 D10 D11 D12 D13
  refine (HC.out _).mono ?_
  rintro e w4_ ⟨rfl, hb⟩
  have D0_5 := Lib.hid (D0_4.out.next hb)
  have D1_5 := Lib.hid (D1_4.out.next hb)
  have Q_5 := Lib.hid (Q_4.out.next hb)
  have R_5 := Lib.hid (R_4.out.next hb)
  have HB_5 := Lib.hid (Below.next HB_4.out hb)
  clear D0_4 D1_4 Q_4 R_4 HB_4
  clear hb
  obtain ⟨kb, oK⟩ := boxes1 23 (.int .i64 c1) (.int .i64 c2) w4_
  have D0_6 := Lib.hid (D0_5.out.next kb)
  have D1_6 := Lib.hid (D1_5.out.next kb)
  have Q_6 := Lib.hid (Q_5.out.next kb)
  have R_6 := Lib.hid (R_5.out.next kb)
  have HB_6 := Lib.hid (Below.next HB_5.out kb)
  clear D0_5 D1_5 Q_5 R_5 HB_5
  have K_6 := Lib.hid oK
  clear kb oK
  obtain ⟨D00, D01, D02, D03⟩ := D0_6.out
  go_wp2_with (fail)
  generalize w4_.alloc (.cells #[.int .i64 c1, .int .i64 c2] 23) = v6 at *
  generalize w4_.heap.size = g6 at *
  clear D00 D01 D02 D03
  refine (HR.out _).mono ?_
  rintro e w6_ ⟨rfl, hb⟩
  have D0_7 := Lib.hid (D0_6.out.next hb)
  have D1_7 := Lib.hid (D1_6.out.next hb)
  have Q_7 := Lib.hid (Q_6.out.next hb)
  have R_7 := Lib.hid (R_6.out.next hb)
  have K_7 := Lib.hid (K_6.out.next hb)
  have HB_7 := Lib.hid (Below.next HB_6.out hb)
  clear D0_6 D1_6 Q_6 R_6 K_6 HB_6
  clear hb
  obtain ⟨D10, D11, D12, D13⟩ := D1_7.out
  go_wp2_with (fail)
  clear D10 D11 D12 D13
  refine (HS.out _).mono ?_
  rintro e w7_ ⟨rfl, hb⟩
  have D0_8 := Lib.hid (D0_7.out.next hb)
  have D1_8 := Lib.hid (D1_7.out.next hb)
  have Q_8 := Lib.hid (Q_7.out.next hb)
  have R_8 := Lib.hid (R_7.out.next hb)
  have K_8 := Lib.hid (K_7.out.next hb)
  have HB_8 := Lib.hid (Below.next HB_7.out hb)
  clear D0_7 D1_7 Q_7 R_7 K_7 HB_7
  clear hb
  go_wp2_with (fail)
  have qK0 := fun (r : Over w7_) => (K_8.out.over r).c0
  have qK1 := fun (r : Over w7_) => (K_8.out.over r).c1
  have qD00 := fun (r : Over w7_) => (D0_8.out.over r).c0
  have qD01 := fun (r : Over w7_) => (D0_8.out.over r).c1
  have qD10 := fun (r : Over w7_) => (D1_8.out.over r).c0
  have qD11 := fun (r : Over w7_) => (D1_8.out.over r).c1
  refine wp_over (by kernel_rfl) (by kernel_rfl) ?_
  repeat (go_big_quiet_step (first | fail | with_reducible exact over_gives _ (HF.out _)))
  refine wpQuiet_nil ?_
  rintro w8q ⟨⟨w8q, hb⟩, rfl⟩
  clear qK0 qK1 qD00 qD01 qD10 qD11
  clear K_8
  have D0_9 := Lib.hid (D0_8.out.next hb)
  have D1_9 := Lib.hid (D1_8.out.next hb)
  have Q_9 := Lib.hid (Q_8.out.next hb)
  have R_9 := Lib.hid (R_8.out.next hb)
  have HB_9 := Lib.hid (Below.next HB_8.out hb)
  clear D0_8 D1_8 Q_8 R_8 HB_8
  clear hb
  obtain ⟨D10, D11, D12, D13⟩ := D1_9.out
  go_wp2_with (fail)
  go_ret
  exact ⟨rfl, HB_9.out⟩
set_option maxHeartbeats 4000000 in
theorem good {x y u v c1 c2 q1 q2 r1 r2 : Int} (w : World) (HD : Hid (∀ w, Calls Try.prog 14 #[.agg #[.int .i64 x, .int .i64 y], .agg #[.int .i64 u, .int .i64 v]] w (Gives (.tuple #[.agg #[.int .i64 q1, .int .i64 q2], .agg #[.int .i64 r1, .int .i64 r2], .int .i64 0]) w))) (HC : Hid (∀ w, Calls Try.prog 15 #[.agg #[.int .i64 x, .int .i64 y], .agg #[.int .i64 u, .int .i64 v]] w (Gives (.tuple #[.agg #[.int .i64 c1, .int .i64 c2], .int .i64 0]) w))) (HR : Hid (∀ w, Calls Try.prog 16 #[.agg #[.int .i64 x, .int .i64 y]] w (Gives (.bool true) w))) (HS : Hid (∀ w, Calls Try.prog 16 #[.agg #[.int .i64 u, .int .i64 v]] w (Gives (.bool true) w))) (HF : Hid (∀ w, Calls Try.prog 24 #[.agg #[.int .i64 x, .int .i64 y], .agg #[.int .i64 u, .int .i64 v]] w (Gives (.agg #[.int .i64 c1, .int .i64 c2]) w))) (HG : Hid (∀ w, Calls Try.prog 25 #[.agg #[.int .i64 x, .int .i64 y], .agg #[.int .i64 u, .int .i64 v]] w (Gives (.tuple #[.agg #[.int .i64 q1, .int .i64 q2], .agg #[.int .i64 r1, .int .i64 r2]]) w))) (HX : Hid (∀ w, Calls Try.prog 16 #[.agg #[.int .i64 q1, .int .i64 q2]] w (Gives (.bool true) w))) (HY : Hid (∀ w, Calls Try.prog 16 #[.agg #[.int .i64 r1, .int .i64 r2]] w (Gives (.bool true) w)))
    (hp : (u == 0) = false ∨ ((u == 0) = true ∧ (v == 0) = false)) : Calls Try.prog 7 #[.agg #[.int .i64 x, .int .i64 y], .agg #[.int .i64 u, .int .i64 v]] w (Gives (.bool true) w) := by
  rcases hp with h1 | ⟨h1, h2⟩
  all_goals
    go_enter Try.func7, Try.ntmps7
    go_wp2_with (fail)
    obtain ⟨kb, oD0, oD1⟩ := boxes2 23 (.int .i64 x) (.int .i64 y) (.int .i64 u) (.int .i64 v) w
    have HB_1 := Lib.hid kb
    have D0_1 := Lib.hid oD0
    have D1_1 := Lib.hid oD1
    clear kb oD0 oD1
    generalize (w.alloc (.cells #[.int .i64 x, .int .i64 y] 23)).alloc (.cells #[.int .i64 u, .int .i64 v] 23) = v1 at *
    refine (awake_any _).mono ?_
    rintro e w1_ ⟨rfl, hb⟩
    have D0_2 := Lib.hid (D0_1.out.next hb)
    have D1_2 := Lib.hid (D1_1.out.next hb)
    have HB_2 := Lib.hid (Below.next HB_1.out hb)
    clear D0_1 D1_1 HB_1
    clear hb
    obtain ⟨D00, D01, D02, D03⟩ := D0_2.out
    obtain ⟨D10, D11, D12, D13⟩ := D1_2.out
    go_wp2_with (fail)
    clear D00 D01 D02 D03 D10 D11 D12 D13
    refine (HD.out _).mono ?_
    rintro e w2_ ⟨rfl, hb⟩
    have D0_3 := Lib.hid (D0_2.out.next hb)
    have D1_3 := Lib.hid (D1_2.out.next hb)
    have HB_3 := Lib.hid (Below.next HB_2.out hb)
    clear D0_2 D1_2 HB_2
    clear hb
    obtain ⟨kb, oQ, oR⟩ := boxes2 23 (.int .i64 q1) (.int .i64 q2) (.int .i64 r1) (.int .i64 r2) w2_
    have D0_4 := Lib.hid (D0_3.out.next kb)
    have D1_4 := Lib.hid (D1_3.out.next kb)
    have HB_4 := Lib.hid (Below.next HB_3.out kb)
    clear D0_3 D1_3 HB_3
    have Q_4 := Lib.hid oQ
    have R_4 := Lib.hid oR
    clear kb oQ oR
    obtain ⟨D00, D01, D02, D03⟩ := D0_4.out
    obtain ⟨D10, D11, D12, D13⟩ := D1_4.out
    go_wp2_with (fail)
    generalize (w2_.alloc (.cells #[.int .i64 q1, .int .i64 q2] 23)).alloc (.cells #[.int .i64 r1, .int .i64 r2] 23) = v4 at *
    generalize w2_.heap.size = g4 at *
    clear D00 D01 D02 D03 D10 D11 D12 D13
    refine (HC.out _).mono ?_
    rintro e w4_ ⟨rfl, hb⟩
    have D0_5 := Lib.hid (D0_4.out.next hb)
    have D1_5 := Lib.hid (D1_4.out.next hb)
    have Q_5 := Lib.hid (Q_4.out.next hb)
    have R_5 := Lib.hid (R_4.out.next hb)
    have HB_5 := Lib.hid (Below.next HB_4.out hb)
    clear D0_4 D1_4 Q_4 R_4 HB_4
    clear hb
    obtain ⟨kb, oK⟩ := boxes1 23 (.int .i64 c1) (.int .i64 c2) w4_
    have D0_6 := Lib.hid (D0_5.out.next kb)
    have D1_6 := Lib.hid (D1_5.out.next kb)
    have Q_6 := Lib.hid (Q_5.out.next kb)
    have R_6 := Lib.hid (R_5.out.next kb)
    have HB_6 := Lib.hid (Below.next HB_5.out kb)
    clear D0_5 D1_5 Q_5 R_5 HB_5
    have K_6 := Lib.hid oK
    clear kb oK
    obtain ⟨D00, D01, D02, D03⟩ := D0_6.out
    go_wp2_with (fail)
    generalize w4_.alloc (.cells #[.int .i64 c1, .int .i64 c2] 23) = v6 at *
    generalize w4_.heap.size = g6 at *
    clear D00 D01 D02 D03
    refine (HR.out _).mono ?_
    rintro e w6_ ⟨rfl, hb⟩
    have D0_7 := Lib.hid (D0_6.out.next hb)
    have D1_7 := Lib.hid (D1_6.out.next hb)
    have Q_7 := Lib.hid (Q_6.out.next hb)
    have R_7 := Lib.hid (R_6.out.next hb)
    have K_7 := Lib.hid (K_6.out.next hb)
    have HB_7 := Lib.hid (Below.next HB_6.out hb)
    clear D0_6 D1_6 Q_6 R_6 K_6 HB_6
    clear hb
    obtain ⟨D10, D11, D12, D13⟩ := D1_7.out
    go_wp2_with (fail)
    clear D10 D11 D12 D13
    refine (HS.out _).mono ?_
    rintro e w7_ ⟨rfl, hb⟩
    have D0_8 := Lib.hid (D0_7.out.next hb)
    have D1_8 := Lib.hid (D1_7.out.next hb)
    have Q_8 := Lib.hid (Q_7.out.next hb)
    have R_8 := Lib.hid (R_7.out.next hb)
    have K_8 := Lib.hid (K_7.out.next hb)
    have HB_8 := Lib.hid (Below.next HB_7.out hb)
    clear D0_7 D1_7 Q_7 R_7 K_7 HB_7
    clear hb
    go_wp2_with (fail)
    have qK0 := fun (r : Over w7_) => (K_8.out.over r).c0
    have qK1 := fun (r : Over w7_) => (K_8.out.over r).c1
    have qD00 := fun (r : Over w7_) => (D0_8.out.over r).c0
    have qD01 := fun (r : Over w7_) => (D0_8.out.over r).c1
    have qD10 := fun (r : Over w7_) => (D1_8.out.over r).c0
    have qD11 := fun (r : Over w7_) => (D1_8.out.over r).c1
    refine wp_over (by kernel_rfl) (by kernel_rfl) ?_
    repeat (go_big_quiet_step (first | fail | with_reducible exact over_gives _ (HF.out _)))
    refine wpQuiet_nil ?_
    rintro w8q ⟨⟨w8q, hb⟩, rfl⟩
    clear qK0 qK1 qD00 qD01 qD10 qD11
    clear K_8
    have D0_9 := Lib.hid (D0_8.out.next hb)
    have D1_9 := Lib.hid (D1_8.out.next hb)
    have Q_9 := Lib.hid (Q_8.out.next hb)
    have R_9 := Lib.hid (R_8.out.next hb)
    have HB_9 := Lib.hid (Below.next HB_8.out hb)
    clear D0_8 D1_8 Q_8 R_8 HB_8
    clear hb
    obtain ⟨D00, D01, D02, D03⟩ := D0_9.out
    obtain ⟨D10, D11, D12, D13⟩ := D1_9.out
    go_wp2_with (fail)
    clear D00 D01 D02 D03 D10 D11 D12 D13
    refine (HG.out _).mono ?_
    rintro e w9_ ⟨rfl, hb⟩
    clear D0_9
    clear D1_9
    have Q_10 := Lib.hid (Q_9.out.next hb)
    have R_10 := Lib.hid (R_9.out.next hb)
    have HB_10 := Lib.hid (Below.next HB_9.out hb)
    clear Q_9 R_9 HB_9
    clear hb
    obtain ⟨kb, oX, oY⟩ := boxes2 23 (.int .i64 q1) (.int .i64 q2) (.int .i64 r1) (.int .i64 r2) w9_
    have Q_11 := Lib.hid (Q_10.out.next kb)
    have R_11 := Lib.hid (R_10.out.next kb)
    have HB_11 := Lib.hid (Below.next HB_10.out kb)
    clear Q_10 R_10 HB_10
    have X_11 := Lib.hid oX
    have Y_11 := Lib.hid oY
    clear kb oX oY
    obtain ⟨X0, X1, X2, X3⟩ := X_11.out
    go_wp2_with (fail)
    generalize (w9_.alloc (.cells #[.int .i64 q1, .int .i64 q2] 23)).alloc (.cells #[.int .i64 r1, .int .i64 r2] 23) = v11 at *
    generalize w9_.heap.size = g11 at *
    clear X0 X1 X2 X3
    refine (HX.out _).mono ?_
    rintro e w11_ ⟨rfl, hb⟩
    have Q_12 := Lib.hid (Q_11.out.next hb)
    have R_12 := Lib.hid (R_11.out.next hb)
    have X_12 := Lib.hid (X_11.out.next hb)
    have Y_12 := Lib.hid (Y_11.out.next hb)
    have HB_12 := Lib.hid (Below.next HB_11.out hb)
    clear Q_11 R_11 X_11 Y_11 HB_11
    clear hb
    obtain ⟨Y0, Y1, Y2, Y3⟩ := Y_12.out
    go_wp2_with (fail)
    clear Y0 Y1 Y2 Y3
    refine (HY.out _).mono ?_
    rintro e w12_ ⟨rfl, hb⟩
    have Q_13 := Lib.hid (Q_12.out.next hb)
    have R_13 := Lib.hid (R_12.out.next hb)
    have X_13 := Lib.hid (X_12.out.next hb)
    have Y_13 := Lib.hid (Y_12.out.next hb)
    have HB_13 := Lib.hid (Below.next HB_12.out hb)
    clear Q_12 R_12 X_12 Y_12 HB_12
    clear hb
    obtain ⟨Q0, Q1, Q2, Q3⟩ := Q_13.out
    obtain ⟨R0, R1, R2, R3⟩ := R_13.out
    obtain ⟨X0, X1, X2, X3⟩ := X_13.out
    obtain ⟨Y0, Y1, Y2, Y3⟩ := Y_13.out
    go_wp2_with (fail)
    go_ret
    exact ⟨rfl, HB_13.out⟩
theorem all (x y u v : Int) (w : World) : Calls Try.prog 7 #[.agg #[.int .i64 x, .int .i64 y], .agg #[.int .i64 u, .int .i64 v]] w (Gives (.bool true) w) := by
  have r1 := rright_any x y
  have r2 := rright_any u v
  by_cases hr : (rb ⟨x, y⟩ && rb ⟨u, v⟩) = true
  · have h12 := hr; rw [Bool.and_eq_true] at h12
    obtain ⟨ha, hb⟩ := h12
    rw [ha] at r1; rw [hb] at r2
    by_cases h0 : (⟨u, v⟩ : Pt) = Pt.zero
    · have hc := common_yes ha hb
      have hf := rcommon_any ha hb
      injection h0 with e1 e2
      subst e1; subst e2
      exact zero w (Lib.hid (div_zero x y ha)) (Lib.hid hc) (Lib.hid r1) (Lib.hid r2) (Lib.hid hf)
    · have x1 := rright_any (Pt.quo ⟨x, y⟩ ⟨u, v⟩).x (Pt.quo ⟨x, y⟩ ⟨u, v⟩).y
      have x2 := rright_any (Pt.rest ⟨x, y⟩ ⟨u, v⟩).x (Pt.rest ⟨x, y⟩ ⟨u, v⟩).y
      have e1 : rb ⟨(Pt.quo ⟨x, y⟩ ⟨u, v⟩).x, (Pt.quo ⟨x, y⟩ ⟨u, v⟩).y⟩ = true := Pt.quo_right ha h0
      have e2 : rb ⟨(Pt.rest ⟨x, y⟩ ⟨u, v⟩).x, (Pt.rest ⟨x, y⟩ ⟨u, v⟩).y⟩ = true := Pt.rest_right hb h0
      rw [e1] at x1; rw [e2] at x2
      exact good w (Lib.hid (div_yes ha hb h0)) (Lib.hid (common_yes ha hb)) (Lib.hid r1) (Lib.hid r2) (Lib.hid (rcommon_any ha hb)) (Lib.hid (rdiv_any ha hb h0)) (Lib.hid x1) (Lib.hid x2) (not_zero h0)
  · rw [Bool.not_eq_true] at hr
    by_cases ha : rb ⟨x, y⟩ = true
    · rw [ha] at r1
      have hb : rb ⟨u, v⟩ = false := by rw [ha, Bool.true_and] at hr; exact hr
      rw [hb] at r2
      exact bad2 w (Lib.hid (div_bad x y u v hr)) (Lib.hid (common_bad x y u v hr)) (Lib.hid r1) (Lib.hid r2)
    · rw [Bool.not_eq_true] at ha
      rw [ha] at r1
      exact bad1 w (Lib.hid (div_bad x y u v hr)) (Lib.hid (common_bad x y u v hr)) (Lib.hid r1)
/-! ### STEP 1: THE WALK: the Go text returns true. 'Grown w w'': the world has at most new blocks (Derived/RowKit3.lean). Part the cases AHEAD of 'go_enter' where a test parts the walk; take each callee by a contract of your own. -/
theorem walk (x0 y0 : Int) (x1 y1 : Int) (wx0 : (Lit.int .i64 x0).wf = true) (wy0 : (Lit.int .i64 y0).wf = true) (wx1 : (Lit.int .i64 x1).wf = true) (wy1 : (Lit.int .i64 y1).wf = true) (w : World) :
    Calls Try.prog 7 #[.agg #[.int .i64 x0, .int .i64 y0], .agg #[.int .i64 x1, .int .i64 y1]] w fun e w' => e = .returned (.bool true) ∧ Below w.heap.size w w' := by
  exact all x0 y0 x1 y1 w

/-! ### THE ROW's STEP: WRITTEN OUT: LEAVE IT -/
set_option maxRecDepth 100000 in
theorem lifted (os : Os) (started : os.Started) (H : Type) (enc : TypeId × Value → H) :
    ReturnsInHanded {} Try.checked os 7 .any (Rows.gaussQuotientsSpec.pre6 enc Try.prog Try.f7 Rows.gaussQuotientsRow.domain false) (Rows.gaussQuotientsSpec.post enc Try.prog Try.f7 false true false false) := by
  refine returnsInHanded_of_change (C := Try.checked) own started (by kernel_rfl) Try.func7
    (ChangeSpec.witness6 (enc := enc) (C := Try.checked) false ⟨#[], #[.agg #[.int .i64 0, .int .i64 0], .agg #[.int .i64 0, .int .i64 0]], []⟩ 8 (by kernel_rfl) (by kernel_rfl) (by kernel_rfl) (by kernel_rfl)) ?_
  intro W base args ds gs before hval0 hW hcnd _
  have hval : ∀ (j : Nat) t v, Try.f7.params[j]? = some t → args[j]? = some v → Value.okWide Try.prog W .any base t v := hval0
  have hW' := hW
  obtain ⟨p, q, hA0, hV, rfl, hfz, hnd⟩ := hW
  have hA : DataW.TrodAll enc Try.prog W 0 (fun _ => true) true Try.f7.params.toList args.toList ds p := hA0
  rw [Try.params7] at hA hval
  obtain ⟨v0, vs0, d0, ds0, p0, q0, hargs, rfl, rfl, h0, r0⟩ := trodAll_cons hA
  obtain ⟨v1, vs1, d1, ds1, p1, q1, rfl, rfl, rfl, h1, r1⟩ := trodAll_cons r0
  obtain ⟨rfl, rfl, rfl⟩ := trodAll_nil r1
  obtain rfl : args = #[v0, v1] := by cases args; simp_all
  obtain ⟨rfl, rfl⟩ := trodVars_none hV
  obtain ⟨x0, y0, rfl, rfl, rfl, wx0, wy0⟩ := Ga.spot_of (hval 0 23 v0 rfl rfl) h0
  obtain ⟨x1, y1, rfl, rfl, rfl, wx1, wy1⟩ := Ga.spot_of (hval 1 23 v1 rfl rfl) h1
  clear hA0 hval0
  simp only [List.append_nil] at hW'
  refine (walk x0 y0 x1 y1 wx0 wy0 wx1 wy1 W).mono fun e W' ⟨he, bel⟩ => ?_
  subst he
  exact ⟨_, rfl, _, _, _, [], _, [], hW', trodAll_mk1 (shut_bool Try.underlying4 _), (trodAll_cons_mk (Ga.shut_spot wx0 wy0) (trodAll_cons_mk (Ga.shut_spot wx1 wy1) trodAll_mk0)), rfl, bel.frame _, fun h => by cases h⟩

theorem over : Rows.gaussQuotientsRow.holds Try.pinned (OpenSpec.ofChange Rows.gaussQuotientsSpec) :=
  OpenClaim.holds_of_wide 7 Try.f7 rfl rfl rfl rfl rfl rfl rfl ⟨rfl, rfl, rfl, rfl, rfl⟩ rfl rfl rfl rfl rfl (by kernel_rfl) Try.func7 (by kernel_rfl)
    (of_decide_eq_true (by kernel_rfl)) (by unfold Func.isWrapper; first | (rw [if_pos (by decide +kernel)]; kernel_rfl) | (rw [if_neg (by decide +kernel)]; exact ⟨rfl, rfl⟩))
    (fun os started H enc _ => lifted os started H enc)

/-- ████ THE STATEMENT ████ -/
theorem proved : Rows.GaussQuotientsSaid :=
  over
#print axioms proved
end Go.Proofs.Ytjgaaeomfilhoaa.gaussQuotients
