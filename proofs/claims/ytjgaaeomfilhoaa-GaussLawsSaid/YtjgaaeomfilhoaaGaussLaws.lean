/-
  Proved: for every input the law GaussLaws returns true, and leaves its arguments as they were. No condition.
-/
import Derived.Test.YtjgaaeomfilhoaaRows
import Derived.WalkKit
import Derived.ProofKit
import Derived.OpenShut
import Derived.ShutString
import Derived.Test.YtjgaaeomfilhoaaGaAwake
namespace Go.Proofs.Ytjgaaeomfilhoaa.gaussLaws
open Go.ChangeShapes Go.WideShapes Go.ChangeAt Go.RowKit
open Go.ChangeMaps (open_string shut_string)
set_option linter.unusedVariables false      -- a walk need not use every 'w<i>' (that an integer argument fits its kind)

theorem own : ownKnob Try.prog.godebug = none := by kernel_rfl

open Go.Proofs.Ytjgaaeomfilhoaa.Ga Go.Proofs.Ytjgaaeomfilhoaa.Ov
set_option maxHeartbeats 2000000 in
theorem early {x y u v p q c1 c2 e d1 d2 g s1 s2 h : Int} (w : World) (H1 : Hid (∀ w, Calls Try.prog 10 #[.agg #[.int .i64 x, .int .i64 y], .agg #[.int .i64 u, .int .i64 v]] w (Gives (.tuple #[.agg #[.int .i64 c1, .int .i64 c2], .int .i64 e]) w))) (H2 : Hid (∀ w, Calls Try.prog 10 #[.agg #[.int .i64 u, .int .i64 v], .agg #[.int .i64 x, .int .i64 y]] w (Gives (.tuple #[.agg #[.int .i64 c1, .int .i64 c2], .int .i64 e]) w))) (H3 : Hid (∀ w, Calls Try.prog 10 #[.agg #[.int .i64 x, .int .i64 y], .agg #[.int .i64 p, .int .i64 q]] w (Gives (.tuple #[.agg #[.int .i64 d1, .int .i64 d2], .int .i64 g]) w))) (H4 : Hid (∀ w, Calls Try.prog 11 #[.agg #[.int .i64 u, .int .i64 v], .agg #[.int .i64 p, .int .i64 q]] w (Gives (.tuple #[.agg #[.int .i64 s1, .int .i64 s2], .int .i64 h]) w)))
    (hp : (e != 0) = true ∨ ((e != 0) = false ∧ (g != 0) = true) ∨ ((e != 0) = false ∧ (g != 0) = false ∧ (h != 0) = true)) : Calls Try.prog 3 #[.agg #[.int .i64 x, .int .i64 y], .agg #[.int .i64 u, .int .i64 v], .agg #[.int .i64 p, .int .i64 q]] w (Gives (.bool true) w) := by
  rcases hp with h1 | ⟨h1, h2⟩ | ⟨h1, h2, h3⟩
  all_goals
    go_enter Try.func3, Try.ntmps3
    go_wp2_with (fail)
    obtain ⟨kb, oD0, oD1, oD2⟩ := boxes3 23 (.int .i64 x) (.int .i64 y) (.int .i64 u) (.int .i64 v) (.int .i64 p) (.int .i64 q) w
    have HB_1 := Lib.hid kb
    have D0_1 := Lib.hid oD0
    have D1_1 := Lib.hid oD1
    have D2_1 := Lib.hid oD2
    clear kb oD0 oD1 oD2
    generalize ((w.alloc (.cells #[.int .i64 x, .int .i64 y] 23)).alloc (.cells #[.int .i64 u, .int .i64 v] 23)).alloc (.cells #[.int .i64 p, .int .i64 q] 23) = v1 at *
    refine (awake_any _).mono ?_
    rintro e w1_ ⟨rfl, hb⟩
    have D0_2 := Lib.hid (D0_1.out.next hb)
    have D1_2 := Lib.hid (D1_1.out.next hb)
    have D2_2 := Lib.hid (D2_1.out.next hb)
    have HB_2 := Lib.hid (Below.next HB_1.out hb)
    clear D0_1 D1_1 D2_1 HB_1
    clear hb
    obtain ⟨D00, D01, D02, D03⟩ := D0_2.out
    obtain ⟨D10, D11, D12, D13⟩ := D1_2.out
    go_wp2_with (fail)
    clear D00 D01 D02 D03 D10 D11 D12 D13
    refine (H1.out _).mono ?_
    rintro e w2_ ⟨rfl, hb⟩
    have D0_3 := Lib.hid (D0_2.out.next hb)
    have D1_3 := Lib.hid (D1_2.out.next hb)
    have D2_3 := Lib.hid (D2_2.out.next hb)
    have HB_3 := Lib.hid (Below.next HB_2.out hb)
    clear D0_2 D1_2 D2_2 HB_2
    clear hb
    obtain ⟨kb, oAB⟩ := boxes1 23 (.int .i64 c1) (.int .i64 c2) w2_
    have D0_4 := Lib.hid (D0_3.out.next kb)
    have D1_4 := Lib.hid (D1_3.out.next kb)
    have D2_4 := Lib.hid (D2_3.out.next kb)
    have HB_4 := Lib.hid (Below.next HB_3.out kb)
    clear D0_3 D1_3 D2_3 HB_3
    have AB_4 := Lib.hid oAB
    clear kb oAB
    obtain ⟨D00, D01, D02, D03⟩ := D0_4.out
    obtain ⟨D10, D11, D12, D13⟩ := D1_4.out
    go_wp2_with (fail)
    generalize w2_.alloc (.cells #[.int .i64 c1, .int .i64 c2] 23) = v4 at *
    generalize w2_.heap.size = g4 at *
    clear D00 D01 D02 D03 D10 D11 D12 D13
    refine (H2.out _).mono ?_
    rintro e w4_ ⟨rfl, hb⟩
    have D0_5 := Lib.hid (D0_4.out.next hb)
    have D1_5 := Lib.hid (D1_4.out.next hb)
    have D2_5 := Lib.hid (D2_4.out.next hb)
    have AB_5 := Lib.hid (AB_4.out.next hb)
    have HB_5 := Lib.hid (Below.next HB_4.out hb)
    clear D0_4 D1_4 D2_4 AB_4 HB_4
    clear hb
    obtain ⟨kb, oBA⟩ := boxes1 23 (.int .i64 c1) (.int .i64 c2) w4_
    have D0_6 := Lib.hid (D0_5.out.next kb)
    have D1_6 := Lib.hid (D1_5.out.next kb)
    have D2_6 := Lib.hid (D2_5.out.next kb)
    have AB_6 := Lib.hid (AB_5.out.next kb)
    have HB_6 := Lib.hid (Below.next HB_5.out kb)
    clear D0_5 D1_5 D2_5 AB_5 HB_5
    have BA_6 := Lib.hid oBA
    clear kb oBA
    obtain ⟨AB0, AB1, AB2, AB3⟩ := AB_6.out
    obtain ⟨BA0, BA1, BA2, BA3⟩ := BA_6.out
    obtain ⟨D00, D01, D02, D03⟩ := D0_6.out
    obtain ⟨D20, D21, D22, D23⟩ := D2_6.out
    go_wp2_with (fail)
    generalize w4_.alloc (.cells #[.int .i64 c1, .int .i64 c2] 23) = v6 at *
    generalize w4_.heap.size = g6 at *
    clear AB0 AB1 AB2 AB3 BA0 BA1 BA2 BA3 D00 D01 D02 D03 D20 D21 D22 D23
    refine (H3.out _).mono ?_
    rintro e w6_ ⟨rfl, hb⟩
    have D0_7 := Lib.hid (D0_6.out.next hb)
    have D1_7 := Lib.hid (D1_6.out.next hb)
    have D2_7 := Lib.hid (D2_6.out.next hb)
    have AB_7 := Lib.hid (AB_6.out.next hb)
    have BA_7 := Lib.hid (BA_6.out.next hb)
    have HB_7 := Lib.hid (Below.next HB_6.out hb)
    clear D0_6 D1_6 D2_6 AB_6 BA_6 HB_6
    clear hb
    obtain ⟨kb, oAC⟩ := boxes1 23 (.int .i64 d1) (.int .i64 d2) w6_
    have D0_8 := Lib.hid (D0_7.out.next kb)
    have D1_8 := Lib.hid (D1_7.out.next kb)
    have D2_8 := Lib.hid (D2_7.out.next kb)
    have AB_8 := Lib.hid (AB_7.out.next kb)
    have BA_8 := Lib.hid (BA_7.out.next kb)
    have HB_8 := Lib.hid (Below.next HB_7.out kb)
    clear D0_7 D1_7 D2_7 AB_7 BA_7 HB_7
    have AC_8 := Lib.hid oAC
    clear kb oAC
    obtain ⟨D10, D11, D12, D13⟩ := D1_8.out
    obtain ⟨D20, D21, D22, D23⟩ := D2_8.out
    go_wp2_with (fail)
    generalize w6_.alloc (.cells #[.int .i64 d1, .int .i64 d2] 23) = v8 at *
    generalize w6_.heap.size = g8 at *
    clear D10 D11 D12 D13 D20 D21 D22 D23
    refine (H4.out _).mono ?_
    rintro e w8_ ⟨rfl, hb⟩
    have D0_9 := Lib.hid (D0_8.out.next hb)
    have D1_9 := Lib.hid (D1_8.out.next hb)
    have D2_9 := Lib.hid (D2_8.out.next hb)
    have AB_9 := Lib.hid (AB_8.out.next hb)
    have BA_9 := Lib.hid (BA_8.out.next hb)
    have AC_9 := Lib.hid (AC_8.out.next hb)
    have HB_9 := Lib.hid (Below.next HB_8.out hb)
    clear D0_8 D1_8 D2_8 AB_8 BA_8 AC_8 HB_8
    clear hb
    obtain ⟨kb, oS⟩ := boxes1 23 (.int .i64 s1) (.int .i64 s2) w8_
    have D0_10 := Lib.hid (D0_9.out.next kb)
    have D1_10 := Lib.hid (D1_9.out.next kb)
    have D2_10 := Lib.hid (D2_9.out.next kb)
    have AB_10 := Lib.hid (AB_9.out.next kb)
    have BA_10 := Lib.hid (BA_9.out.next kb)
    have AC_10 := Lib.hid (AC_9.out.next kb)
    have HB_10 := Lib.hid (Below.next HB_9.out kb)
    clear D0_9 D1_9 D2_9 AB_9 BA_9 AC_9 HB_9
    have S_10 := Lib.hid oS
    clear kb oS
    go_wp2_with (fail)
    generalize w8_.alloc (.cells #[.int .i64 s1, .int .i64 s2] 23) = v10 at *
    generalize w8_.heap.size = g10 at *
    go_ret
    exact ⟨rfl, HB_10.out⟩
set_option maxHeartbeats 4000000 in
theorem late {x y u v p q c1 c2 e d1 d2 g s1 s2 h l1 l2 i m n z : Int} (w : World) (H1 : Hid (∀ w, Calls Try.prog 10 #[.agg #[.int .i64 x, .int .i64 y], .agg #[.int .i64 u, .int .i64 v]] w (Gives (.tuple #[.agg #[.int .i64 c1, .int .i64 c2], .int .i64 e]) w))) (H2 : Hid (∀ w, Calls Try.prog 10 #[.agg #[.int .i64 u, .int .i64 v], .agg #[.int .i64 x, .int .i64 y]] w (Gives (.tuple #[.agg #[.int .i64 c1, .int .i64 c2], .int .i64 e]) w))) (H3 : Hid (∀ w, Calls Try.prog 10 #[.agg #[.int .i64 x, .int .i64 y], .agg #[.int .i64 p, .int .i64 q]] w (Gives (.tuple #[.agg #[.int .i64 d1, .int .i64 d2], .int .i64 g]) w))) (H4 : Hid (∀ w, Calls Try.prog 11 #[.agg #[.int .i64 u, .int .i64 v], .agg #[.int .i64 p, .int .i64 q]] w (Gives (.tuple #[.agg #[.int .i64 s1, .int .i64 s2], .int .i64 h]) w))) (H5 : Hid (∀ w, Calls Try.prog 10 #[.agg #[.int .i64 x, .int .i64 y], .agg #[.int .i64 s1, .int .i64 s2]] w (Gives (.tuple #[.agg #[.int .i64 l1, .int .i64 l2], .int .i64 i]) w))) (H6 : Hid (∀ w, Calls Try.prog 11 #[.agg #[.int .i64 c1, .int .i64 c2], .agg #[.int .i64 d1, .int .i64 d2]] w (Gives (.tuple #[.agg #[.int .i64 l1, .int .i64 l2], .int .i64 i]) w))) (H7 : Hid (∀ w, Calls Try.prog 12 #[.agg #[.int .i64 s1, .int .i64 s2], .agg #[.int .i64 p, .int .i64 q]] w (Gives (.tuple #[.agg #[.int .i64 u, .int .i64 v], .int .i64 0]) w))) (H8 : Hid (∀ w, Calls Try.prog 13 #[.agg #[.int .i64 x, .int .i64 y]] w (Gives (.tuple #[.int .i64 m, .int .i64 0]) w))) (H9 : Hid (∀ w, Calls Try.prog 13 #[.agg #[.int .i64 u, .int .i64 v]] w (Gives (.tuple #[.int .i64 n, .int .i64 0]) w))) (H10 : Hid (∀ w, Calls Try.prog 13 #[.agg #[.int .i64 c1, .int .i64 c2]] w (Gives (.tuple #[.int .i64 z, .int .i64 0]) w)))
    (h1 : (e != 0) = false) (h2 : (g != 0) = false) (h3 : (h != 0) = false) (hm : 0 ≤ m) (hn : 0 ≤ n)
    (hp : 1048576 < m ∨ (m ≤ 1048576 ∧ 1048576 < n) ∨ (m ≤ 1048576 ∧ n ≤ 1048576 ∧ m * n ≤ 1099511627776 ∧ (m * n == z) = true)) : Calls Try.prog 3 #[.agg #[.int .i64 x, .int .i64 y], .agg #[.int .i64 u, .int .i64 v], .agg #[.int .i64 p, .int .i64 q]] w (Gives (.bool true) w) := by
  have hmn : 0 ≤ m * n := Int.mul_nonneg hm hn
  rcases hp with h4 | ⟨h4, h5⟩ | ⟨h4, h5, h6, h7⟩
  all_goals
    go_enter Try.func3, Try.ntmps3
    go_wp2_with (fail)
    obtain ⟨kb, oD0, oD1, oD2⟩ := boxes3 23 (.int .i64 x) (.int .i64 y) (.int .i64 u) (.int .i64 v) (.int .i64 p) (.int .i64 q) w
    have HB_1 := Lib.hid kb
    have D0_1 := Lib.hid oD0
    have D1_1 := Lib.hid oD1
    have D2_1 := Lib.hid oD2
    clear kb oD0 oD1 oD2
    generalize ((w.alloc (.cells #[.int .i64 x, .int .i64 y] 23)).alloc (.cells #[.int .i64 u, .int .i64 v] 23)).alloc (.cells #[.int .i64 p, .int .i64 q] 23) = v1 at *
    refine (awake_any _).mono ?_
    rintro e w1_ ⟨rfl, hb⟩
    have D0_2 := Lib.hid (D0_1.out.next hb)
    have D1_2 := Lib.hid (D1_1.out.next hb)
    have D2_2 := Lib.hid (D2_1.out.next hb)
    have HB_2 := Lib.hid (Below.next HB_1.out hb)
    clear D0_1 D1_1 D2_1 HB_1
    clear hb
    obtain ⟨D00, D01, D02, D03⟩ := D0_2.out
    obtain ⟨D10, D11, D12, D13⟩ := D1_2.out
    go_wp2_with (fail)
    clear D00 D01 D02 D03 D10 D11 D12 D13
    refine (H1.out _).mono ?_
    rintro e w2_ ⟨rfl, hb⟩
    have D0_3 := Lib.hid (D0_2.out.next hb)
    have D1_3 := Lib.hid (D1_2.out.next hb)
    have D2_3 := Lib.hid (D2_2.out.next hb)
    have HB_3 := Lib.hid (Below.next HB_2.out hb)
    clear D0_2 D1_2 D2_2 HB_2
    clear hb
    obtain ⟨kb, oAB⟩ := boxes1 23 (.int .i64 c1) (.int .i64 c2) w2_
    have D0_4 := Lib.hid (D0_3.out.next kb)
    have D1_4 := Lib.hid (D1_3.out.next kb)
    have D2_4 := Lib.hid (D2_3.out.next kb)
    have HB_4 := Lib.hid (Below.next HB_3.out kb)
    clear D0_3 D1_3 D2_3 HB_3
    have AB_4 := Lib.hid oAB
    clear kb oAB
    obtain ⟨D00, D01, D02, D03⟩ := D0_4.out
    obtain ⟨D10, D11, D12, D13⟩ := D1_4.out
    go_wp2_with (fail)
    generalize w2_.alloc (.cells #[.int .i64 c1, .int .i64 c2] 23) = v4 at *
    generalize w2_.heap.size = g4 at *
    clear D00 D01 D02 D03 D10 D11 D12 D13
    refine (H2.out _).mono ?_
    rintro e w4_ ⟨rfl, hb⟩
    have D0_5 := Lib.hid (D0_4.out.next hb)
    have D1_5 := Lib.hid (D1_4.out.next hb)
    have D2_5 := Lib.hid (D2_4.out.next hb)
    have AB_5 := Lib.hid (AB_4.out.next hb)
    have HB_5 := Lib.hid (Below.next HB_4.out hb)
    clear D0_4 D1_4 D2_4 AB_4 HB_4
    clear hb
    obtain ⟨kb, oBA⟩ := boxes1 23 (.int .i64 c1) (.int .i64 c2) w4_
    have D0_6 := Lib.hid (D0_5.out.next kb)
    have D1_6 := Lib.hid (D1_5.out.next kb)
    have D2_6 := Lib.hid (D2_5.out.next kb)
    have AB_6 := Lib.hid (AB_5.out.next kb)
    have HB_6 := Lib.hid (Below.next HB_5.out kb)
    clear D0_5 D1_5 D2_5 AB_5 HB_5
    have BA_6 := Lib.hid oBA
    clear kb oBA
    obtain ⟨AB0, AB1, AB2, AB3⟩ := AB_6.out
    obtain ⟨BA0, BA1, BA2, BA3⟩ := BA_6.out
    obtain ⟨D00, D01, D02, D03⟩ := D0_6.out
    obtain ⟨D20, D21, D22, D23⟩ := D2_6.out
    go_wp2_with (fail)
    generalize w4_.alloc (.cells #[.int .i64 c1, .int .i64 c2] 23) = v6 at *
    generalize w4_.heap.size = g6 at *
    clear AB0 AB1 AB2 AB3 BA0 BA1 BA2 BA3 D00 D01 D02 D03 D20 D21 D22 D23
    refine (H3.out _).mono ?_
    rintro e w6_ ⟨rfl, hb⟩
    clear BA_6
    have D0_7 := Lib.hid (D0_6.out.next hb)
    have D1_7 := Lib.hid (D1_6.out.next hb)
    have D2_7 := Lib.hid (D2_6.out.next hb)
    have AB_7 := Lib.hid (AB_6.out.next hb)
    have HB_7 := Lib.hid (Below.next HB_6.out hb)
    clear D0_6 D1_6 D2_6 AB_6 HB_6
    clear hb
    obtain ⟨kb, oAC⟩ := boxes1 23 (.int .i64 d1) (.int .i64 d2) w6_
    have D0_8 := Lib.hid (D0_7.out.next kb)
    have D1_8 := Lib.hid (D1_7.out.next kb)
    have D2_8 := Lib.hid (D2_7.out.next kb)
    have AB_8 := Lib.hid (AB_7.out.next kb)
    have HB_8 := Lib.hid (Below.next HB_7.out kb)
    clear D0_7 D1_7 D2_7 AB_7 HB_7
    have AC_8 := Lib.hid oAC
    clear kb oAC
    obtain ⟨D10, D11, D12, D13⟩ := D1_8.out
    obtain ⟨D20, D21, D22, D23⟩ := D2_8.out
    go_wp2_with (fail)
    generalize w6_.alloc (.cells #[.int .i64 d1, .int .i64 d2] 23) = v8 at *
    generalize w6_.heap.size = g8 at *
    clear D10 D11 D12 D13 D20 D21 D22 D23
    refine (H4.out _).mono ?_
    rintro e w8_ ⟨rfl, hb⟩
    have D0_9 := Lib.hid (D0_8.out.next hb)
    have D1_9 := Lib.hid (D1_8.out.next hb)
    have D2_9 := Lib.hid (D2_8.out.next hb)
    have AB_9 := Lib.hid (AB_8.out.next hb)
    have AC_9 := Lib.hid (AC_8.out.next hb)
    have HB_9 := Lib.hid (Below.next HB_8.out hb)
    clear D0_8 D1_8 D2_8 AB_8 AC_8 HB_8
    clear hb
    obtain ⟨kb, oS⟩ := boxes1 23 (.int .i64 s1) (.int .i64 s2) w8_
    have D0_10 := Lib.hid (D0_9.out.next kb)
    have D1_10 := Lib.hid (D1_9.out.next kb)
    have D2_10 := Lib.hid (D2_9.out.next kb)
    have AB_10 := Lib.hid (AB_9.out.next kb)
    have AC_10 := Lib.hid (AC_9.out.next kb)
    have HB_10 := Lib.hid (Below.next HB_9.out kb)
    clear D0_9 D1_9 D2_9 AB_9 AC_9 HB_9
    have S_10 := Lib.hid oS
    clear kb oS
    obtain ⟨D00, D01, D02, D03⟩ := D0_10.out
    obtain ⟨S0, S1, S2, S3⟩ := S_10.out
    go_wp2_with (fail)
    generalize w8_.alloc (.cells #[.int .i64 s1, .int .i64 s2] 23) = v10 at *
    generalize w8_.heap.size = g10 at *
    clear D00 D01 D02 D03 S0 S1 S2 S3
    refine (H5.out _).mono ?_
    rintro e w10_ ⟨rfl, hb⟩
    have D0_11 := Lib.hid (D0_10.out.next hb)
    have D1_11 := Lib.hid (D1_10.out.next hb)
    have D2_11 := Lib.hid (D2_10.out.next hb)
    have AB_11 := Lib.hid (AB_10.out.next hb)
    have AC_11 := Lib.hid (AC_10.out.next hb)
    have S_11 := Lib.hid (S_10.out.next hb)
    have HB_11 := Lib.hid (Below.next HB_10.out hb)
    clear D0_10 D1_10 D2_10 AB_10 AC_10 S_10 HB_10
    clear hb
    obtain ⟨kb, oLL⟩ := boxes1 23 (.int .i64 l1) (.int .i64 l2) w10_
    have D0_12 := Lib.hid (D0_11.out.next kb)
    have D1_12 := Lib.hid (D1_11.out.next kb)
    have D2_12 := Lib.hid (D2_11.out.next kb)
    have AB_12 := Lib.hid (AB_11.out.next kb)
    have AC_12 := Lib.hid (AC_11.out.next kb)
    have S_12 := Lib.hid (S_11.out.next kb)
    have HB_12 := Lib.hid (Below.next HB_11.out kb)
    clear D0_11 D1_11 D2_11 AB_11 AC_11 S_11 HB_11
    have LL_12 := Lib.hid oLL
    clear kb oLL
    obtain ⟨AB0, AB1, AB2, AB3⟩ := AB_12.out
    obtain ⟨AC0, AC1, AC2, AC3⟩ := AC_12.out
    go_wp2_with (fail)
    generalize w10_.alloc (.cells #[.int .i64 l1, .int .i64 l2] 23) = v12 at *
    generalize w10_.heap.size = g12 at *
    clear AB0 AB1 AB2 AB3 AC0 AC1 AC2 AC3
    refine (H6.out _).mono ?_
    rintro e w12_ ⟨rfl, hb⟩
    clear AC_12
    have D0_13 := Lib.hid (D0_12.out.next hb)
    have D1_13 := Lib.hid (D1_12.out.next hb)
    have D2_13 := Lib.hid (D2_12.out.next hb)
    have AB_13 := Lib.hid (AB_12.out.next hb)
    have S_13 := Lib.hid (S_12.out.next hb)
    have LL_13 := Lib.hid (LL_12.out.next hb)
    have HB_13 := Lib.hid (Below.next HB_12.out hb)
    clear D0_12 D1_12 D2_12 AB_12 S_12 LL_12 HB_12
    clear hb
    obtain ⟨kb, oMM⟩ := boxes1 23 (.int .i64 l1) (.int .i64 l2) w12_
    have D0_14 := Lib.hid (D0_13.out.next kb)
    have D1_14 := Lib.hid (D1_13.out.next kb)
    have D2_14 := Lib.hid (D2_13.out.next kb)
    have AB_14 := Lib.hid (AB_13.out.next kb)
    have S_14 := Lib.hid (S_13.out.next kb)
    have LL_14 := Lib.hid (LL_13.out.next kb)
    have HB_14 := Lib.hid (Below.next HB_13.out kb)
    clear D0_13 D1_13 D2_13 AB_13 S_13 LL_13 HB_13
    have MM_14 := Lib.hid oMM
    clear kb oMM
    obtain ⟨S0, S1, S2, S3⟩ := S_14.out
    obtain ⟨D20, D21, D22, D23⟩ := D2_14.out
    go_wp2_with (fail)
    generalize w12_.alloc (.cells #[.int .i64 l1, .int .i64 l2] 23) = v14 at *
    generalize w12_.heap.size = g14 at *
    clear S0 S1 S2 S3 D20 D21 D22 D23
    refine (H7.out _).mono ?_
    rintro e w14_ ⟨rfl, hb⟩
    clear S_14
    clear D2_14
    have D0_15 := Lib.hid (D0_14.out.next hb)
    have D1_15 := Lib.hid (D1_14.out.next hb)
    have AB_15 := Lib.hid (AB_14.out.next hb)
    have LL_15 := Lib.hid (LL_14.out.next hb)
    have MM_15 := Lib.hid (MM_14.out.next hb)
    have HB_15 := Lib.hid (Below.next HB_14.out hb)
    clear D0_14 D1_14 AB_14 LL_14 MM_14 HB_14
    clear hb
    obtain ⟨kb, oDD⟩ := boxes1 23 (.int .i64 u) (.int .i64 v) w14_
    have D0_16 := Lib.hid (D0_15.out.next kb)
    have D1_16 := Lib.hid (D1_15.out.next kb)
    have AB_16 := Lib.hid (AB_15.out.next kb)
    have LL_16 := Lib.hid (LL_15.out.next kb)
    have MM_16 := Lib.hid (MM_15.out.next kb)
    have HB_16 := Lib.hid (Below.next HB_15.out kb)
    clear D0_15 D1_15 AB_15 LL_15 MM_15 HB_15
    have DD_16 := Lib.hid oDD
    clear kb oDD
    obtain ⟨D00, D01, D02, D03⟩ := D0_16.out
    go_wp2_with (fail)
    generalize w14_.alloc (.cells #[.int .i64 u, .int .i64 v] 23) = v16 at *
    generalize w14_.heap.size = g16 at *
    clear D00 D01 D02 D03
    refine (H8.out _).mono ?_
    rintro e w16_ ⟨rfl, hb⟩
    clear D0_16
    have D1_17 := Lib.hid (D1_16.out.next hb)
    have AB_17 := Lib.hid (AB_16.out.next hb)
    have LL_17 := Lib.hid (LL_16.out.next hb)
    have MM_17 := Lib.hid (MM_16.out.next hb)
    have DD_17 := Lib.hid (DD_16.out.next hb)
    have HB_17 := Lib.hid (Below.next HB_16.out hb)
    clear D1_16 AB_16 LL_16 MM_16 DD_16 HB_16
    clear hb
    obtain ⟨D10, D11, D12, D13⟩ := D1_17.out
    go_wp2_with (fail)
    clear D10 D11 D12 D13
    refine (H9.out _).mono ?_
    rintro e w17_ ⟨rfl, hb⟩
    have D1_18 := Lib.hid (D1_17.out.next hb)
    have AB_18 := Lib.hid (AB_17.out.next hb)
    have LL_18 := Lib.hid (LL_17.out.next hb)
    have MM_18 := Lib.hid (MM_17.out.next hb)
    have DD_18 := Lib.hid (DD_17.out.next hb)
    have HB_18 := Lib.hid (Below.next HB_17.out hb)
    clear D1_17 AB_17 LL_17 MM_17 DD_17 HB_17
    clear hb
    obtain ⟨AB0, AB1, AB2, AB3⟩ := AB_18.out
    go_wp2_with (fail)
    clear AB0 AB1 AB2 AB3
    refine (H10.out _).mono ?_
    rintro e w18_ ⟨rfl, hb⟩
    clear AB_18
    have D1_19 := Lib.hid (D1_18.out.next hb)
    have LL_19 := Lib.hid (LL_18.out.next hb)
    have MM_19 := Lib.hid (MM_18.out.next hb)
    have DD_19 := Lib.hid (DD_18.out.next hb)
    have HB_19 := Lib.hid (Below.next HB_18.out hb)
    clear D1_18 LL_18 MM_18 DD_18 HB_18
    clear hb
    obtain ⟨LL0, LL1, LL2, LL3⟩ := LL_19.out
    obtain ⟨MM0, MM1, MM2, MM3⟩ := MM_19.out
    obtain ⟨DD0, DD1, DD2, DD3⟩ := DD_19.out
    obtain ⟨D10, D11, D12, D13⟩ := D1_19.out
    go_wp2_with (fail)
    go_ret
    exact ⟨rfl, HB_19.out⟩
theorem all (x y u v p q : Int) (w : World) : Calls Try.prog 3 #[.agg #[.int .i64 x, .int .i64 y], .agg #[.int .i64 u, .int .i64 v], .agg #[.int .i64 p, .int .i64 q]] w (Gives (.bool true) w) := by
  have m1 := mul_any x y u v
  have m2 := mul_any u v x y
  have m3 := mul_any x y p q
  have m4 := add_any u v p q
  rw [Pt.mul_comm ⟨u, v⟩ ⟨x, y⟩, Bool.and_comm (rb ⟨u, v⟩) (rb ⟨x, y⟩)] at m2
  by_cases k1 : (rb ⟨x, y⟩ && rb ⟨u, v⟩ && rb (Pt.mul ⟨x, y⟩ ⟨u, v⟩)) = true
  · rw [k1] at m1 m2
    by_cases k2 : (rb ⟨x, y⟩ && rb ⟨p, q⟩ && rb (Pt.mul ⟨x, y⟩ ⟨p, q⟩)) = true
    · rw [k2] at m3
      by_cases k3 : (rb ⟨u, v⟩ && rb ⟨p, q⟩ && rb (Pt.add ⟨u, v⟩ ⟨p, q⟩)) = true
      · rw [k3] at m4
        rw [Bool.and_eq_true, Bool.and_eq_true] at k1 k2 k3
        have m5 := mul_any x y (Pt.add ⟨u, v⟩ ⟨p, q⟩).x (Pt.add ⟨u, v⟩ ⟨p, q⟩).y
        have m6 := add_any (Pt.mul ⟨x, y⟩ ⟨u, v⟩).x (Pt.mul ⟨x, y⟩ ⟨u, v⟩).y (Pt.mul ⟨x, y⟩ ⟨p, q⟩).x (Pt.mul ⟨x, y⟩ ⟨p, q⟩).y
        have m7 := sub_any (Pt.add ⟨u, v⟩ ⟨p, q⟩).x (Pt.add ⟨u, v⟩ ⟨p, q⟩).y p q
        have e6 : Pt.add (Pt.mul ⟨x, y⟩ ⟨u, v⟩) (Pt.mul ⟨x, y⟩ ⟨p, q⟩) = Pt.mul ⟨x, y⟩ (Pt.add ⟨u, v⟩ ⟨p, q⟩) := (Pt.mul_add _ _ _).symm
        have e7 : Pt.sub (Pt.add ⟨u, v⟩ ⟨p, q⟩) ⟨p, q⟩ = ⟨u, v⟩ := Pt.ext (by show u + p - p = u; omega) (by show v + q - q = v; omega)
        have m6' : ∀ w, Calls Try.prog 11 #[.agg #[.int .i64 (Pt.mul ⟨x, y⟩ ⟨u, v⟩).x, .int .i64 (Pt.mul ⟨x, y⟩ ⟨u, v⟩).y], .agg #[.int .i64 (Pt.mul ⟨x, y⟩ ⟨p, q⟩).x, .int .i64 (Pt.mul ⟨x, y⟩ ⟨p, q⟩).y]] w
          (Gives (ans (rb (Pt.mul ⟨x, y⟩ ⟨u, v⟩) && rb (Pt.mul ⟨x, y⟩ ⟨p, q⟩) && rb (Pt.add (Pt.mul ⟨x, y⟩ ⟨u, v⟩) (Pt.mul ⟨x, y⟩ ⟨p, q⟩))) (Pt.add (Pt.mul ⟨x, y⟩ ⟨u, v⟩) (Pt.mul ⟨x, y⟩ ⟨p, q⟩))) w) := m6
        have m5' : ∀ w, Calls Try.prog 10 #[.agg #[.int .i64 x, .int .i64 y], .agg #[.int .i64 (Pt.add ⟨u, v⟩ ⟨p, q⟩).x, .int .i64 (Pt.add ⟨u, v⟩ ⟨p, q⟩).y]] w
          (Gives (ans (rb ⟨x, y⟩ && rb (Pt.add ⟨u, v⟩ ⟨p, q⟩) && rb (Pt.mul ⟨x, y⟩ (Pt.add ⟨u, v⟩ ⟨p, q⟩))) (Pt.mul ⟨x, y⟩ (Pt.add ⟨u, v⟩ ⟨p, q⟩))) w) := m5
        have m7' : ∀ w, Calls Try.prog 12 #[.agg #[.int .i64 (Pt.add ⟨u, v⟩ ⟨p, q⟩).x, .int .i64 (Pt.add ⟨u, v⟩ ⟨p, q⟩).y], .agg #[.int .i64 p, .int .i64 q]] w
          (Gives (ans (rb (Pt.add ⟨u, v⟩ ⟨p, q⟩) && rb ⟨p, q⟩ && rb (Pt.sub (Pt.add ⟨u, v⟩ ⟨p, q⟩) ⟨p, q⟩)) (Pt.sub (Pt.add ⟨u, v⟩ ⟨p, q⟩) ⟨p, q⟩)) w) := m7
        rw [k1.1.1, k3.2, Bool.true_and, Bool.true_and] at m5'
        rw [k1.2, k2.2, e6, Bool.true_and, Bool.true_and] at m6'
        rw [k3.2, k2.1.2, e7, k1.1.2, Bool.true_and, Bool.true_and] at m7'
        have hn : (Pt.mul ⟨x, y⟩ ⟨u, v⟩).norm = Pt.norm ⟨x, y⟩ * Pt.norm ⟨u, v⟩ := Pt.mul_norm _ _
        have m8 := norm_yes k1.1.1
        have m9 := norm_yes k1.1.2
        have m10 := norm_yes (x := (Pt.mul ⟨x, y⟩ ⟨u, v⟩).x) (y := (Pt.mul ⟨x, y⟩ ⟨u, v⟩).y) k1.2
        have p8 : 0 ≤ x * x + y * y := Pt.norm_nonneg ⟨x, y⟩
        have p9 : 0 ≤ u * u + v * v := Pt.norm_nonneg ⟨u, v⟩
        have hn' : (Pt.mul ⟨x, y⟩ ⟨u, v⟩).x * (Pt.mul ⟨x, y⟩ ⟨u, v⟩).x + (Pt.mul ⟨x, y⟩ ⟨u, v⟩).y * (Pt.mul ⟨x, y⟩ ⟨u, v⟩).y = (x * x + y * y) * (u * u + v * v) := hn
        have hp : 1048576 < x * x + y * y ∨ (x * x + y * y ≤ 1048576 ∧ 1048576 < u * u + v * v) ∨ (x * x + y * y ≤ 1048576 ∧ u * u + v * v ≤ 1048576 ∧ (x * x + y * y) * (u * u + v * v) ≤ 1099511627776 ∧ ((x * x + y * y) * (u * u + v * v) == (Pt.mul ⟨x, y⟩ ⟨u, v⟩).x * (Pt.mul ⟨x, y⟩ ⟨u, v⟩).x + (Pt.mul ⟨x, y⟩ ⟨u, v⟩).y * (Pt.mul ⟨x, y⟩ ⟨u, v⟩).y) = true) := by
          by_cases a1 : 1048576 < x * x + y * y
          · exact .inl a1
          · by_cases a2 : 1048576 < u * u + v * v
            · exact .inr (.inl ⟨by omega, a2⟩)
            · refine .inr (.inr ⟨by omega, by omega, ?_, beq_iff_eq.2 hn'.symm⟩)
              have : (x * x + y * y) * (u * u + v * v) ≤ 1048576 * 1048576 := Int.mul_le_mul (by omega) (by omega) p9 (by omega)
              omega
        cases k4 : rb (Pt.mul ⟨x, y⟩ (Pt.add ⟨u, v⟩ ⟨p, q⟩))
        · rw [k4] at m5' m6'
          exact late w (Lib.hid m1) (Lib.hid m2) (Lib.hid m3) (Lib.hid m4) (Lib.hid m5') (Lib.hid m6') (Lib.hid m7') (Lib.hid m8) (Lib.hid m9) (Lib.hid m10) (by decide) (by decide) (by decide) p8 p9 hp
        · rw [k4] at m5' m6'
          exact late w (Lib.hid m1) (Lib.hid m2) (Lib.hid m3) (Lib.hid m4) (Lib.hid m5') (Lib.hid m6') (Lib.hid m7') (Lib.hid m8) (Lib.hid m9) (Lib.hid m10) (by decide) (by decide) (by decide) p8 p9 hp
      · rw [Bool.not_eq_true] at k3; rw [k3] at m4
        exact early w (Lib.hid m1) (Lib.hid m2) (Lib.hid m3) (Lib.hid m4) (.inr (.inr ⟨by decide, by decide, by decide⟩))
    · rw [Bool.not_eq_true] at k2; rw [k2] at m3
      cases k3 : (rb ⟨u, v⟩ && rb ⟨p, q⟩ && rb (Pt.add ⟨u, v⟩ ⟨p, q⟩))
      all_goals
        rw [k3] at m4
        exact early w (Lib.hid m1) (Lib.hid m2) (Lib.hid m3) (Lib.hid m4) (.inr (.inl ⟨by decide, by decide⟩))
  · rw [Bool.not_eq_true] at k1; rw [k1] at m1 m2
    cases k2 : (rb ⟨x, y⟩ && rb ⟨p, q⟩ && rb (Pt.mul ⟨x, y⟩ ⟨p, q⟩))
    all_goals
      rw [k2] at m3
      cases k3 : (rb ⟨u, v⟩ && rb ⟨p, q⟩ && rb (Pt.add ⟨u, v⟩ ⟨p, q⟩))
      all_goals
        rw [k3] at m4
        exact early w (Lib.hid m1) (Lib.hid m2) (Lib.hid m3) (Lib.hid m4) (.inl (by decide))
/-! ### STEP 1: THE WALK: the Go text returns true. 'Grown w w'': the world has at most new blocks (Derived/RowKit3.lean). Part the cases AHEAD of 'go_enter' where a test parts the walk; take each callee by a contract of your own. -/
theorem walk (x0 y0 : Int) (x1 y1 : Int) (x2 y2 : Int) (wx0 : (Lit.int .i64 x0).wf = true) (wy0 : (Lit.int .i64 y0).wf = true) (wx1 : (Lit.int .i64 x1).wf = true) (wy1 : (Lit.int .i64 y1).wf = true) (wx2 : (Lit.int .i64 x2).wf = true) (wy2 : (Lit.int .i64 y2).wf = true) (w : World) :
    Calls Try.prog 3 #[.agg #[.int .i64 x0, .int .i64 y0], .agg #[.int .i64 x1, .int .i64 y1], .agg #[.int .i64 x2, .int .i64 y2]] w fun e w' => e = .returned (.bool true) ∧ Below w.heap.size w w' := by
  exact all x0 y0 x1 y1 x2 y2 w

/-! ### THE ROW's STEP: WRITTEN OUT: LEAVE IT -/
set_option maxRecDepth 100000 in
theorem lifted (os : Os) (started : os.Started) (H : Type) (enc : TypeId × Value → H) :
    ReturnsInHanded {} Try.checked os 3 .any (Rows.gaussLawsSpec.pre6 enc Try.prog Try.f3 Rows.gaussLawsRow.domain false) (Rows.gaussLawsSpec.post enc Try.prog Try.f3 false true false false) := by
  refine returnsInHanded_of_change (C := Try.checked) own started (by kernel_rfl) Try.func3
    (ChangeSpec.witness6 (enc := enc) (C := Try.checked) false ⟨#[], #[.agg #[.int .i64 0, .int .i64 0], .agg #[.int .i64 0, .int .i64 0], .agg #[.int .i64 0, .int .i64 0]], []⟩ 8 (by kernel_rfl) (by kernel_rfl) (by kernel_rfl) (by kernel_rfl)) ?_
  intro W base args ds gs before hval0 hW hcnd _
  have hval : ∀ (j : Nat) t v, Try.f3.params[j]? = some t → args[j]? = some v → Value.okWide Try.prog W .any base t v := hval0
  have hW' := hW
  obtain ⟨p, q, hA0, hV, rfl, hfz, hnd⟩ := hW
  have hA : DataW.TrodAll enc Try.prog W 0 (fun _ => true) true Try.f3.params.toList args.toList ds p := hA0
  rw [Try.params3] at hA hval
  obtain ⟨v0, vs0, d0, ds0, p0, q0, hargs, rfl, rfl, h0, r0⟩ := trodAll_cons hA
  obtain ⟨v1, vs1, d1, ds1, p1, q1, rfl, rfl, rfl, h1, r1⟩ := trodAll_cons r0
  obtain ⟨v2, vs2, d2, ds2, p2, q2, rfl, rfl, rfl, h2, r2⟩ := trodAll_cons r1
  obtain ⟨rfl, rfl, rfl⟩ := trodAll_nil r2
  obtain rfl : args = #[v0, v1, v2] := by cases args; simp_all
  obtain ⟨rfl, rfl⟩ := trodVars_none hV
  obtain ⟨x0, y0, rfl, rfl, rfl, wx0, wy0⟩ := Ga.spot_of (hval 0 23 v0 rfl rfl) h0
  obtain ⟨x1, y1, rfl, rfl, rfl, wx1, wy1⟩ := Ga.spot_of (hval 1 23 v1 rfl rfl) h1
  obtain ⟨x2, y2, rfl, rfl, rfl, wx2, wy2⟩ := Ga.spot_of (hval 2 23 v2 rfl rfl) h2
  clear hA0 hval0
  simp only [List.append_nil] at hW'
  refine (walk x0 y0 x1 y1 x2 y2 wx0 wy0 wx1 wy1 wx2 wy2 W).mono fun e W' ⟨he, bel⟩ => ?_
  subst he
  exact ⟨_, rfl, _, _, _, [], _, [], hW', trodAll_mk1 (shut_bool Try.underlying4 _), (trodAll_cons_mk (Ga.shut_spot wx0 wy0) (trodAll_cons_mk (Ga.shut_spot wx1 wy1) (trodAll_cons_mk (Ga.shut_spot wx2 wy2) trodAll_mk0))), rfl, bel.frame _, fun h => by cases h⟩

theorem over : Rows.gaussLawsRow.holds Try.pinned (OpenSpec.ofChange Rows.gaussLawsSpec) :=
  OpenClaim.holds_of_wide 3 Try.f3 rfl rfl rfl rfl rfl rfl rfl ⟨rfl, rfl, rfl, rfl, rfl⟩ rfl rfl rfl rfl rfl (by kernel_rfl) Try.func3 (by kernel_rfl)
    (of_decide_eq_true (by kernel_rfl)) (by unfold Func.isWrapper; first | (rw [if_pos (by decide +kernel)]; kernel_rfl) | (rw [if_neg (by decide +kernel)]; exact ⟨rfl, rfl⟩))
    (fun os started H enc _ => lifted os started H enc)

/-- ████ THE STATEMENT ████ -/
theorem proved : Rows.GaussLawsSaid :=
  over
#print axioms proved
end Go.Proofs.Ytjgaaeomfilhoaa.gaussLaws
