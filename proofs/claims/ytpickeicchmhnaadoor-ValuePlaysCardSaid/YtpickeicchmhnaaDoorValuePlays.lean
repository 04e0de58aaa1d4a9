/-
  Proved: for every input the law ValuePlays returns true, and leaves its arguments as they were; the tables that it reads lie as start-up lays them (the card ties them to the program's text). No other condition.
-/
import Derived.Test.YtpickeicchmhnaaDoorCards
import Derived.Test.YtpickeicchmhnaaDoorTie
import Derived.WalkKit
import Derived.ProofKit
import Derived.OpenShut
import Derived.ShutString
import Derived.LaidMore
import Derived.Stop.Joined
import Derived.SevenTiedAt
import Derived.Test.YtpickeicchmhnaaDoorOvLaid
import Derived.Test.YtpickeicchmhnaaDoorVaRef3
import Derived.Test.YtpickeicchmhnaaDoorVaAwake
namespace Go.Proofs.YtpickeicchmhnaaDoor.valuePlays
open Go.ChangeShapes Go.WideShapes Go.ChangeAt Go.RowKit
open Go.ChangeMaps (open_string shut_string)
set_option linter.unusedVariables false      -- a walk need not use every 'w<i>'

theorem own : ownKnob Tryd.prog.godebug = none := by kernel_rfl

open Go.Proofs.YtpickeicchmhnaaDoor.Va Go.Proofs.YtpickeicchmhnaaDoor.Ov
set_option maxHeartbeats 1000000 in
theorem long0 (k0 n0 x0 y0 k1 n1 x1 y1 : Int) (s0 s1 : ByteArray) (w : World) (hT : Tab w) (z0 : (6000 : Int) < (s0.size : Int)) : Calls Tryd.prog 5 #[.agg #[.int .i64 k0, .int .i64 n0, .string s0, .int .i64 x0, .int .i64 y0], .agg #[.int .i64 k1, .int .i64 n1, .string s1, .int .i64 x1, .int .i64 y1]] w (Gives (.bool true) w) := by
  go_enter Tryd.func5, Tryd.ntmps5
  go_wp2_with (fail)
  have kb := box2 w (.cells #[.int .i64 k0, .int .i64 n0, .string s0, .int .i64 x0, .int .i64 y0] 25) (.cells #[.int .i64 k1, .int .i64 n1, .string s1, .int .i64 x1, .int .i64 y1] 25)
  have HT_0 := Lib.hid (hT.next kb)
  have HB_0 := Lib.hid kb
  clear kb
  have D0_0 : Blk ((w.alloc (.cells #[.int .i64 k0, .int .i64 n0, .string s0, .int .i64 x0, .int .i64 y0] 25)).alloc (.cells #[.int .i64 k1, .int .i64 n1, .string s1, .int .i64 x1, .int .i64 y1] 25)) (w.heap.size) (vcs k0 n0 s0 x0 y0) := ((Blk.made w 25 (vcs k0 n0 s0 x0 y0) rfl).old (.cells #[.int .i64 k1, .int .i64 n1, .string s1, .int .i64 x1, .int .i64 y1] 25))
  have D1_0 : Blk ((w.alloc (.cells #[.int .i64 k0, .int .i64 n0, .string s0, .int .i64 x0, .int .i64 y0] 25)).alloc (.cells #[.int .i64 k1, .int .i64 n1, .string s1, .int .i64 x1, .int .i64 y1] 25)) (w.heap.size + 1) (vcs k1 n1 s1 x1 y1) := (Blk.made (w.alloc (.cells #[.int .i64 k0, .int .i64 n0, .string s0, .int .i64 x0, .int .i64 y0] 25)) 25 (vcs k1 n1 s1 x1 y1) (World.size_alloc _ _))
  have D0_1 := Lib.hid D0_0; clear D0_0
  have D1_1 := Lib.hid D1_0; clear D1_0
  generalize (w.alloc (.cells #[.int .i64 k0, .int .i64 n0, .string s0, .int .i64 x0, .int .i64 y0] 25)).alloc (.cells #[.int .i64 k1, .int .i64 n1, .string s1, .int .i64 x1, .int .i64 y1] 25) = v at *
  refine (awake_any _ HT_0.out).mono ?_
  rintro e u2 ⟨rfl, hb⟩
  have D0_2 := Lib.hid (D0_1.out.next hb)
  have D1_2 := Lib.hid (D1_1.out.next hb)
  have HT_2 := Lib.hid (HT_0.out.next hb)
  have HB_2 := Lib.hid (Below.next HB_0.out hb)
  clear hb D0_1 D1_1 HT_0 HB_0
  have cD00 := D0_2.out.v0; have cD01 := D0_2.out.v1; have cD02 := D0_2.out.v2; have cD03 := D0_2.out.v3; have cD04 := D0_2.out.v4; have cD10 := D1_2.out.v0; have cD11 := D1_2.out.v1; have cD12 := D1_2.out.v2; have cD13 := D1_2.out.v3; have cD14 := D1_2.out.v4
  go_wp2_with (fail)
  clear cD00 cD01 cD02 cD03 cD04 cD10 cD11 cD12 cD13 cD14
  refine (awake_any _ HT_2.out).mono ?_
  rintro e u3 ⟨rfl, hb⟩
  have D0_3 := Lib.hid (D0_2.out.next hb)
  have D1_3 := Lib.hid (D1_2.out.next hb)
  have HT_3 := Lib.hid (HT_2.out.next hb)
  have HB_3 := Lib.hid (Below.next HB_2.out hb)
  clear hb D0_2 D1_2 HT_2 HB_2
  go_wp2_with (fail)
  go_ret
  exact ⟨rfl, HB_3.out⟩
set_option maxHeartbeats 1000000 in
theorem long1 (k0 n0 x0 y0 k1 n1 x1 y1 : Int) (s0 s1 : ByteArray) (w : World) (hT : Tab w) (z0 : ¬ (6000 : Int) < (s0.size : Int)) (z1 : (6000 : Int) < (s1.size : Int)) : Calls Tryd.prog 5 #[.agg #[.int .i64 k0, .int .i64 n0, .string s0, .int .i64 x0, .int .i64 y0], .agg #[.int .i64 k1, .int .i64 n1, .string s1, .int .i64 x1, .int .i64 y1]] w (Gives (.bool true) w) := by
  go_enter Tryd.func5, Tryd.ntmps5
  go_wp2_with (fail)
  have kb := box2 w (.cells #[.int .i64 k0, .int .i64 n0, .string s0, .int .i64 x0, .int .i64 y0] 25) (.cells #[.int .i64 k1, .int .i64 n1, .string s1, .int .i64 x1, .int .i64 y1] 25)
  have HT_0 := Lib.hid (hT.next kb)
  have HB_0 := Lib.hid kb
  clear kb
  have D0_0 : Blk ((w.alloc (.cells #[.int .i64 k0, .int .i64 n0, .string s0, .int .i64 x0, .int .i64 y0] 25)).alloc (.cells #[.int .i64 k1, .int .i64 n1, .string s1, .int .i64 x1, .int .i64 y1] 25)) (w.heap.size) (vcs k0 n0 s0 x0 y0) := ((Blk.made w 25 (vcs k0 n0 s0 x0 y0) rfl).old (.cells #[.int .i64 k1, .int .i64 n1, .string s1, .int .i64 x1, .int .i64 y1] 25))
  have D1_0 : Blk ((w.alloc (.cells #[.int .i64 k0, .int .i64 n0, .string s0, .int .i64 x0, .int .i64 y0] 25)).alloc (.cells #[.int .i64 k1, .int .i64 n1, .string s1, .int .i64 x1, .int .i64 y1] 25)) (w.heap.size + 1) (vcs k1 n1 s1 x1 y1) := (Blk.made (w.alloc (.cells #[.int .i64 k0, .int .i64 n0, .string s0, .int .i64 x0, .int .i64 y0] 25)) 25 (vcs k1 n1 s1 x1 y1) (World.size_alloc _ _))
  have D0_1 := Lib.hid D0_0; clear D0_0
  have D1_1 := Lib.hid D1_0; clear D1_0
  generalize (w.alloc (.cells #[.int .i64 k0, .int .i64 n0, .string s0, .int .i64 x0, .int .i64 y0] 25)).alloc (.cells #[.int .i64 k1, .int .i64 n1, .string s1, .int .i64 x1, .int .i64 y1] 25) = v at *
  refine (awake_any _ HT_0.out).mono ?_
  rintro e u2 ⟨rfl, hb⟩
  have D0_2 := Lib.hid (D0_1.out.next hb)
  have D1_2 := Lib.hid (D1_1.out.next hb)
  have HT_2 := Lib.hid (HT_0.out.next hb)
  have HB_2 := Lib.hid (Below.next HB_0.out hb)
  clear hb D0_1 D1_1 HT_0 HB_0
  have cD00 := D0_2.out.v0; have cD01 := D0_2.out.v1; have cD02 := D0_2.out.v2; have cD03 := D0_2.out.v3; have cD04 := D0_2.out.v4; have cD10 := D1_2.out.v0; have cD11 := D1_2.out.v1; have cD12 := D1_2.out.v2; have cD13 := D1_2.out.v3; have cD14 := D1_2.out.v4
  go_wp2_with (fail)
  clear cD00 cD01 cD02 cD03 cD04 cD10 cD11 cD12 cD13 cD14
  refine (awake_any _ HT_2.out).mono ?_
  rintro e u3 ⟨rfl, hb⟩
  have D0_3 := Lib.hid (D0_2.out.next hb)
  have D1_3 := Lib.hid (D1_2.out.next hb)
  have HT_3 := Lib.hid (HT_2.out.next hb)
  have HB_3 := Lib.hid (Below.next HB_2.out hb)
  clear hb D0_2 D1_2 HT_2 HB_2
  go_wp2_with (fail)
  go_ret
  exact ⟨rfl, HB_3.out⟩
set_option maxHeartbeats 2000000 in
theorem bad0 (k0 n0 x0 y0 k1 n1 x1 y1 : Int) (s0 s1 : ByteArray) (w : World) (hT : Tab w) (z0 : ¬ (6000 : Int) < (s0.size : Int)) (z1 : ¬ (6000 : Int) < (s1.size : Int)) (h0 : rt ⟨k0, n0, s0.data.toList, x0, y0⟩ = false) : Calls Tryd.prog 5 #[.agg #[.int .i64 k0, .int .i64 n0, .string s0, .int .i64 x0, .int .i64 y0], .agg #[.int .i64 k1, .int .i64 n1, .string s1, .int .i64 x1, .int .i64 y1]] w (Gives (.bool true) w) := by
  have HB0 := Lib.hid (bytes_no h0)
  have HW0 := Lib.hid (write_no h0)
  have HR0 := Lib.hid (right_val k0 n0 x0 y0 s0)
  have HQ0 := Lib.hid (rright_val k0 n0 x0 y0 s0)
  rw [h0] at HR0 HQ0; clear h0
  go_enter Tryd.func5, Tryd.ntmps5
  go_wp2_with (fail)
  have kb := box2 w (.cells #[.int .i64 k0, .int .i64 n0, .string s0, .int .i64 x0, .int .i64 y0] 25) (.cells #[.int .i64 k1, .int .i64 n1, .string s1, .int .i64 x1, .int .i64 y1] 25)
  have HT_0 := Lib.hid (hT.next kb)
  have HB_0 := Lib.hid kb
  clear kb
  have D0_0 : Blk ((w.alloc (.cells #[.int .i64 k0, .int .i64 n0, .string s0, .int .i64 x0, .int .i64 y0] 25)).alloc (.cells #[.int .i64 k1, .int .i64 n1, .string s1, .int .i64 x1, .int .i64 y1] 25)) (w.heap.size) (vcs k0 n0 s0 x0 y0) := ((Blk.made w 25 (vcs k0 n0 s0 x0 y0) rfl).old (.cells #[.int .i64 k1, .int .i64 n1, .string s1, .int .i64 x1, .int .i64 y1] 25))
  have D1_0 : Blk ((w.alloc (.cells #[.int .i64 k0, .int .i64 n0, .string s0, .int .i64 x0, .int .i64 y0] 25)).alloc (.cells #[.int .i64 k1, .int .i64 n1, .string s1, .int .i64 x1, .int .i64 y1] 25)) (w.heap.size + 1) (vcs k1 n1 s1 x1 y1) := (Blk.made (w.alloc (.cells #[.int .i64 k0, .int .i64 n0, .string s0, .int .i64 x0, .int .i64 y0] 25)) 25 (vcs k1 n1 s1 x1 y1) (World.size_alloc _ _))
  have D0_1 := Lib.hid D0_0; clear D0_0
  have D1_1 := Lib.hid D1_0; clear D1_0
  generalize (w.alloc (.cells #[.int .i64 k0, .int .i64 n0, .string s0, .int .i64 x0, .int .i64 y0] 25)).alloc (.cells #[.int .i64 k1, .int .i64 n1, .string s1, .int .i64 x1, .int .i64 y1] 25) = v at *
  refine (awake_any _ HT_0.out).mono ?_
  rintro e u2 ⟨rfl, hb⟩
  have D0_2 := Lib.hid (D0_1.out.next hb)
  have D1_2 := Lib.hid (D1_1.out.next hb)
  have HT_2 := Lib.hid (HT_0.out.next hb)
  have HB_2 := Lib.hid (Below.next HB_0.out hb)
  clear hb D0_1 D1_1 HT_0 HB_0
  have cD00 := D0_2.out.v0; have cD01 := D0_2.out.v1; have cD02 := D0_2.out.v2; have cD03 := D0_2.out.v3; have cD04 := D0_2.out.v4; have cD10 := D1_2.out.v0; have cD11 := D1_2.out.v1; have cD12 := D1_2.out.v2; have cD13 := D1_2.out.v3; have cD14 := D1_2.out.v4
  go_wp2_with (fail)
  clear cD00 cD01 cD02 cD03 cD04 cD10 cD11 cD12 cD13 cD14
  have qD00 := fun r : Over u2 => (D0_2.out.over r).v0
  have qD01 := fun r : Over u2 => (D0_2.out.over r).v1
  have qD02 := fun r : Over u2 => (D0_2.out.over r).v2
  have qD03 := fun r : Over u2 => (D0_2.out.over r).v3
  have qD04 := fun r : Over u2 => (D0_2.out.over r).v4
  refine wp_over (by kernel_rfl) (by kernel_rfl) ?_
  repeat (go_big_quiet_step (first | fail | with_reducible exact over_gives _ (HR0.out _) | with_reducible exact over_gives _ (HQ0.out _)))
  refine wpQuiet_nil ?_
  rintro u3 ⟨⟨u3, hb⟩, rfl⟩
  clear qD00 qD01 qD02 qD03 qD04
  have D0_3 := Lib.hid (D0_2.out.next hb)
  have D1_3 := Lib.hid (D1_2.out.next hb)
  have HT_3 := Lib.hid (HT_2.out.next hb)
  have HB_3 := Lib.hid (Below.next HB_2.out hb)
  clear hb D0_2 D1_2 HT_2 HB_2
  have cD00 := D0_3.out.v0; have cD01 := D0_3.out.v1; have cD02 := D0_3.out.v2; have cD03 := D0_3.out.v3; have cD04 := D0_3.out.v4
  go_wp2_with (fail)
  clear cD00 cD01 cD02 cD03 cD04
  refine (HQ0.out _).mono ?_
  rintro e u4 ⟨rfl, hb⟩
  have D0_4 := Lib.hid (D0_3.out.next hb)
  have D1_4 := Lib.hid (D1_3.out.next hb)
  have HT_4 := Lib.hid (HT_3.out.next hb)
  have HB_4 := Lib.hid (Below.next HB_3.out hb)
  clear hb D0_3 D1_3 HT_3 HB_3
  have cD00 := D0_4.out.v0; have cD01 := D0_4.out.v1; have cD02 := D0_4.out.v2; have cD03 := D0_4.out.v3; have cD04 := D0_4.out.v4
  go_wp2_with (fail)
  clear cD00 cD01 cD02 cD03 cD04
  refine (HB0.out _).mono ?_
  rintro e u5 ⟨rfl, hb⟩
  have D0_5 := Lib.hid (D0_4.out.next hb)
  have D1_5 := Lib.hid (D1_4.out.next hb)
  have HT_5 := Lib.hid (HT_4.out.next hb)
  have HB_5 := Lib.hid (Below.next HB_4.out hb)
  clear hb D0_4 D1_4 HT_4 HB_4
  have cD00 := D0_5.out.v0; have cD01 := D0_5.out.v1; have cD02 := D0_5.out.v2; have cD03 := D0_5.out.v3; have cD04 := D0_5.out.v4
  go_wp2_with (fail)
  clear cD00 cD01 cD02 cD03 cD04
  refine (HW0.out _).mono ?_
  rintro e u6 ⟨rfl, hb⟩
  have D0_6 := Lib.hid (D0_5.out.next hb)
  have D1_6 := Lib.hid (D1_5.out.next hb)
  have HT_6 := Lib.hid (HT_5.out.next hb)
  have HB_6 := Lib.hid (Below.next HB_5.out hb)
  clear hb D0_5 D1_5 HT_5 HB_5
  go_wp2_with (fail)
  go_ret
  exact ⟨rfl, HB_6.out⟩
set_option maxRecDepth 100000 in
set_option maxHeartbeats 4000000 in
theorem core_other (k0 n0 x0 y0 k1 n1 x1 y1 : Int) (s0 s1 : ByteArray) (w : World) (hT : Tab w) (z0 : ¬ (6000 : Int) < (s0.size : Int)) (z1 : ¬ (6000 : Int) < (s1.size : Int)) (h0 : rt ⟨k0, n0, s0.data.toList, x0, y0⟩ = true) (h1 : rt ⟨k1, n1, s1.data.toList, x1, y1⟩ = false) : Calls Tryd.prog 5 #[.agg #[.int .i64 k0, .int .i64 n0, .string s0, .int .i64 x0, .int .i64 y0], .agg #[.int .i64 k1, .int .i64 n1, .string s1, .int .i64 x1, .int .i64 y1]] w (Gives (.bool true) w) := by
  have HB0 := Lib.hid (bytes_yes h0)
  have HC0 := Lib.hid (rbytes_yes h0)
  have HW0 := Lib.hid (write_yes h0)
  have HV0 := Lib.hid (rwrite_yes h0)
  have HR0 := Lib.hid (right_val k0 n0 x0 y0 s0)
  have HQ0 := Lib.hid (rright_val k0 n0 x0 y0 s0)
  have HQ1 := Lib.hid (rright_val k1 n1 x1 y1 s1)
  rw [h0] at HR0 HQ0; rw [h1] at HQ1; clear h0 h1
  generalize tx (vb ⟨k0, n0, s0.data.toList, x0, y0⟩) = b0 at *
  generalize tx (wr ⟨k0, n0, s0.data.toList, x0, y0⟩) = t0 at *
  go_enter Tryd.func5, Tryd.ntmps5
  go_wp2_with (fail)
  have kb := box2 w (.cells #[.int .i64 k0, .int .i64 n0, .string s0, .int .i64 x0, .int .i64 y0] 25) (.cells #[.int .i64 k1, .int .i64 n1, .string s1, .int .i64 x1, .int .i64 y1] 25)
  have HT_0 := Lib.hid (hT.next kb)
  have HB_0 := Lib.hid kb
  clear kb
  have D0_0 : Blk ((w.alloc (.cells #[.int .i64 k0, .int .i64 n0, .string s0, .int .i64 x0, .int .i64 y0] 25)).alloc (.cells #[.int .i64 k1, .int .i64 n1, .string s1, .int .i64 x1, .int .i64 y1] 25)) (w.heap.size) (vcs k0 n0 s0 x0 y0) := ((Blk.made w 25 (vcs k0 n0 s0 x0 y0) rfl).old (.cells #[.int .i64 k1, .int .i64 n1, .string s1, .int .i64 x1, .int .i64 y1] 25))
  have D1_0 : Blk ((w.alloc (.cells #[.int .i64 k0, .int .i64 n0, .string s0, .int .i64 x0, .int .i64 y0] 25)).alloc (.cells #[.int .i64 k1, .int .i64 n1, .string s1, .int .i64 x1, .int .i64 y1] 25)) (w.heap.size + 1) (vcs k1 n1 s1 x1 y1) := (Blk.made (w.alloc (.cells #[.int .i64 k0, .int .i64 n0, .string s0, .int .i64 x0, .int .i64 y0] 25)) 25 (vcs k1 n1 s1 x1 y1) (World.size_alloc _ _))
  have D0_1 := Lib.hid D0_0; clear D0_0
  have D1_1 := Lib.hid D1_0; clear D1_0
  generalize (w.alloc (.cells #[.int .i64 k0, .int .i64 n0, .string s0, .int .i64 x0, .int .i64 y0] 25)).alloc (.cells #[.int .i64 k1, .int .i64 n1, .string s1, .int .i64 x1, .int .i64 y1] 25) = v at *
  refine (awake_any _ HT_0.out).mono ?_
  rintro e u2 ⟨rfl, hb⟩
  have D0_2 := Lib.hid (D0_1.out.next hb)
  have D1_2 := Lib.hid (D1_1.out.next hb)
  have HT_2 := Lib.hid (HT_0.out.next hb)
  have HB_2 := Lib.hid (Below.next HB_0.out hb)
  clear hb D0_1 D1_1 HT_0 HB_0
  have cD00 := D0_2.out.v0; have cD01 := D0_2.out.v1; have cD02 := D0_2.out.v2; have cD03 := D0_2.out.v3; have cD04 := D0_2.out.v4; have cD10 := D1_2.out.v0; have cD11 := D1_2.out.v1; have cD12 := D1_2.out.v2; have cD13 := D1_2.out.v3; have cD14 := D1_2.out.v4
  go_wp2_with (fail)
  clear cD00 cD01 cD02 cD03 cD04 cD10 cD11 cD12 cD13 cD14
  have qD00 := fun r : Over u2 => (D0_2.out.over r).v0
  have qD01 := fun r : Over u2 => (D0_2.out.over r).v1
  have qD02 := fun r : Over u2 => (D0_2.out.over r).v2
  have qD03 := fun r : Over u2 => (D0_2.out.over r).v3
  have qD04 := fun r : Over u2 => (D0_2.out.over r).v4
  refine wp_over (by kernel_rfl) (by kernel_rfl) ?_
  repeat (go_big_quiet_step (first | fail | with_reducible exact over_gives _ (HR0.out _) | with_reducible exact over_gives _ (HQ0.out _)))
  refine wpQuiet_nil ?_
  rintro u3 ⟨⟨u3, hb⟩, rfl⟩
  clear qD00 qD01 qD02 qD03 qD04
  have D0_3 := Lib.hid (D0_2.out.next hb)
  have D1_3 := Lib.hid (D1_2.out.next hb)
  have HT_3 := Lib.hid (HT_2.out.next hb)
  have HB_3 := Lib.hid (Below.next HB_2.out hb)
  clear hb D0_2 D1_2 HT_2 HB_2
  have cD00 := D0_3.out.v0; have cD01 := D0_3.out.v1; have cD02 := D0_3.out.v2; have cD03 := D0_3.out.v3; have cD04 := D0_3.out.v4
  go_wp2_with (fail)
  clear cD00 cD01 cD02 cD03 cD04
  refine (HQ0.out _).mono ?_
  rintro e u4 ⟨rfl, hb⟩
  have D0_4 := Lib.hid (D0_3.out.next hb)
  have D1_4 := Lib.hid (D1_3.out.next hb)
  have HT_4 := Lib.hid (HT_3.out.next hb)
  have HB_4 := Lib.hid (Below.next HB_3.out hb)
  clear hb D0_3 D1_3 HT_3 HB_3
  go_wp2_with (fail)
  have KW0 := Lib.hid (fun q : Over u4 => HW0.out q.val (HT_4.out.next q.property))
  have qD00 := fun r : Over u4 => (D0_4.out.over r).v0
  have qD01 := fun r : Over u4 => (D0_4.out.over r).v1
  have qD02 := fun r : Over u4 => (D0_4.out.over r).v2
  have qD03 := fun r : Over u4 => (D0_4.out.over r).v3
  have qD04 := fun r : Over u4 => (D0_4.out.over r).v4
  have qD10 := fun r : Over u4 => (D1_4.out.over r).v0
  have qD11 := fun r : Over u4 => (D1_4.out.over r).v1
  have qD12 := fun r : Over u4 => (D1_4.out.over r).v2
  have qD13 := fun r : Over u4 => (D1_4.out.over r).v3
  have qD14 := fun r : Over u4 => (D1_4.out.over r).v4
  refine wp_over (by kernel_rfl) (by kernel_rfl) ?_
  repeat (go_big_quiet_step (first | fail | with_reducible exact over_gives _ (HB0.out _) | with_reducible exact over_gives _ (HC0.out _) | with_reducible exact over_gives _ (KW0.out _) | with_reducible exact over_gives _ (HV0.out _) | with_reducible exact over_gives _ (HQ1.out _)))
  refine wpQuiet_nil ?_
  rintro u5 ⟨⟨u5, hb⟩, rfl⟩
  clear qD00 qD01 qD02 qD03 qD04 qD10 qD11 qD12 qD13 qD14
  have D0_5 := Lib.hid (D0_4.out.next hb)
  have D1_5 := Lib.hid (D1_4.out.next hb)
  have HT_5 := Lib.hid (HT_4.out.next hb)
  have HB_5 := Lib.hid (Below.next HB_4.out hb)
  clear hb D0_4 D1_4 HT_4 HB_4
  go_wp2_with (fail)
  go_ret
  exact ⟨rfl, HB_5.out⟩
set_option maxRecDepth 100000 in
set_option maxHeartbeats 4000000 in
theorem core_both (k0 n0 x0 y0 k1 n1 x1 y1 : Int) (s0 s1 : ByteArray) (w : World) (hT : Tab w) (z0 : ¬ (6000 : Int) < (s0.size : Int)) (z1 : ¬ (6000 : Int) < (s1.size : Int)) (h0 : rt ⟨k0, n0, s0.data.toList, x0, y0⟩ = true) (h1 : rt ⟨k1, n1, s1.data.toList, x1, y1⟩ = true) : Calls Tryd.prog 5 #[.agg #[.int .i64 k0, .int .i64 n0, .string s0, .int .i64 x0, .int .i64 y0], .agg #[.int .i64 k1, .int .i64 n1, .string s1, .int .i64 x1, .int .i64 y1]] w (Gives (.bool true) w) := by
  have HB0 := Lib.hid (bytes_yes h0)
  have HC0 := Lib.hid (rbytes_yes h0)
  have HW0 := Lib.hid (write_yes h0)
  have HV0 := Lib.hid (rwrite_yes h0)
  have HO := Lib.hid (order_val k0 n0 x0 y0 k1 n1 x1 y1 s0 s1)
  have HP := Lib.hid (fun w => rorder_val k0 n0 x0 y0 k1 n1 x1 y1 s0 s1 w h0 h1 (by omega) (by omega))
  generalize ord ⟨k0, n0, s0.data.toList, x0, y0⟩ ⟨k1, n1, s1.data.toList, x1, y1⟩ = p at *
  have HR0 := Lib.hid (right_val k0 n0 x0 y0 s0)
  have HQ0 := Lib.hid (rright_val k0 n0 x0 y0 s0)
  have HQ1 := Lib.hid (rright_val k1 n1 x1 y1 s1)
  rw [h0] at HR0 HQ0; rw [h1] at HQ1; clear h0 h1
  generalize tx (vb ⟨k0, n0, s0.data.toList, x0, y0⟩) = b0 at *
  generalize tx (wr ⟨k0, n0, s0.data.toList, x0, y0⟩) = t0 at *
  go_enter Tryd.func5, Tryd.ntmps5
  go_wp2_with (fail)
  have kb := box2 w (.cells #[.int .i64 k0, .int .i64 n0, .string s0, .int .i64 x0, .int .i64 y0] 25) (.cells #[.int .i64 k1, .int .i64 n1, .string s1, .int .i64 x1, .int .i64 y1] 25)
  have HT_0 := Lib.hid (hT.next kb)
  have HB_0 := Lib.hid kb
  clear kb
  have D0_0 : Blk ((w.alloc (.cells #[.int .i64 k0, .int .i64 n0, .string s0, .int .i64 x0, .int .i64 y0] 25)).alloc (.cells #[.int .i64 k1, .int .i64 n1, .string s1, .int .i64 x1, .int .i64 y1] 25)) (w.heap.size) (vcs k0 n0 s0 x0 y0) := ((Blk.made w 25 (vcs k0 n0 s0 x0 y0) rfl).old (.cells #[.int .i64 k1, .int .i64 n1, .string s1, .int .i64 x1, .int .i64 y1] 25))
  have D1_0 : Blk ((w.alloc (.cells #[.int .i64 k0, .int .i64 n0, .string s0, .int .i64 x0, .int .i64 y0] 25)).alloc (.cells #[.int .i64 k1, .int .i64 n1, .string s1, .int .i64 x1, .int .i64 y1] 25)) (w.heap.size + 1) (vcs k1 n1 s1 x1 y1) := (Blk.made (w.alloc (.cells #[.int .i64 k0, .int .i64 n0, .string s0, .int .i64 x0, .int .i64 y0] 25)) 25 (vcs k1 n1 s1 x1 y1) (World.size_alloc _ _))
  have D0_1 := Lib.hid D0_0; clear D0_0
  have D1_1 := Lib.hid D1_0; clear D1_0
  generalize (w.alloc (.cells #[.int .i64 k0, .int .i64 n0, .string s0, .int .i64 x0, .int .i64 y0] 25)).alloc (.cells #[.int .i64 k1, .int .i64 n1, .string s1, .int .i64 x1, .int .i64 y1] 25) = v at *
  refine (awake_any _ HT_0.out).mono ?_
  rintro e u2 ⟨rfl, hb⟩
  have D0_2 := Lib.hid (D0_1.out.next hb)
  have D1_2 := Lib.hid (D1_1.out.next hb)
  have HT_2 := Lib.hid (HT_0.out.next hb)
  have HB_2 := Lib.hid (Below.next HB_0.out hb)
  clear hb D0_1 D1_1 HT_0 HB_0
  have cD00 := D0_2.out.v0; have cD01 := D0_2.out.v1; have cD02 := D0_2.out.v2; have cD03 := D0_2.out.v3; have cD04 := D0_2.out.v4; have cD10 := D1_2.out.v0; have cD11 := D1_2.out.v1; have cD12 := D1_2.out.v2; have cD13 := D1_2.out.v3; have cD14 := D1_2.out.v4
  go_wp2_with (fail)
  clear cD00 cD01 cD02 cD03 cD04 cD10 cD11 cD12 cD13 cD14
  have qD00 := fun r : Over u2 => (D0_2.out.over r).v0
  have qD01 := fun r : Over u2 => (D0_2.out.over r).v1
  have qD02 := fun r : Over u2 => (D0_2.out.over r).v2
  have qD03 := fun r : Over u2 => (D0_2.out.over r).v3
  have qD04 := fun r : Over u2 => (D0_2.out.over r).v4
  refine wp_over (by kernel_rfl) (by kernel_rfl) ?_
  repeat (go_big_quiet_step (first | fail | with_reducible exact over_gives _ (HR0.out _) | with_reducible exact over_gives _ (HQ0.out _)))
  refine wpQuiet_nil ?_
  rintro u3 ⟨⟨u3, hb⟩, rfl⟩
  clear qD00 qD01 qD02 qD03 qD04
  have D0_3 := Lib.hid (D0_2.out.next hb)
  have D1_3 := Lib.hid (D1_2.out.next hb)
  have HT_3 := Lib.hid (HT_2.out.next hb)
  have HB_3 := Lib.hid (Below.next HB_2.out hb)
  clear hb D0_2 D1_2 HT_2 HB_2
  have cD00 := D0_3.out.v0; have cD01 := D0_3.out.v1; have cD02 := D0_3.out.v2; have cD03 := D0_3.out.v3; have cD04 := D0_3.out.v4
  go_wp2_with (fail)
  clear cD00 cD01 cD02 cD03 cD04
  refine (HQ0.out _).mono ?_
  rintro e u4 ⟨rfl, hb⟩
  have D0_4 := Lib.hid (D0_3.out.next hb)
  have D1_4 := Lib.hid (D1_3.out.next hb)
  have HT_4 := Lib.hid (HT_3.out.next hb)
  have HB_4 := Lib.hid (Below.next HB_3.out hb)
  clear hb D0_3 D1_3 HT_3 HB_3
  go_wp2_with (fail)
  have KW0 := Lib.hid (fun q : Over u4 => HW0.out q.val (HT_4.out.next q.property))
  have qD00 := fun r : Over u4 => (D0_4.out.over r).v0
  have qD01 := fun r : Over u4 => (D0_4.out.over r).v1
  have qD02 := fun r : Over u4 => (D0_4.out.over r).v2
  have qD03 := fun r : Over u4 => (D0_4.out.over r).v3
  have qD04 := fun r : Over u4 => (D0_4.out.over r).v4
  have qD10 := fun r : Over u4 => (D1_4.out.over r).v0
  have qD11 := fun r : Over u4 => (D1_4.out.over r).v1
  have qD12 := fun r : Over u4 => (D1_4.out.over r).v2
  have qD13 := fun r : Over u4 => (D1_4.out.over r).v3
  have qD14 := fun r : Over u4 => (D1_4.out.over r).v4
  refine wp_over (by kernel_rfl) (by kernel_rfl) ?_
  repeat (go_big_quiet_step (first | fail | with_reducible exact over_gives _ (HB0.out _) | with_reducible exact over_gives _ (HC0.out _) | with_reducible exact over_gives _ (KW0.out _) | with_reducible exact over_gives _ (HV0.out _) | with_reducible exact over_gives _ (HQ1.out _) | with_reducible exact over_gives _ (HO.out _) | with_reducible exact over_gives _ (HP.out _)))
  refine wpQuiet_nil ?_
  rintro u5 ⟨⟨u5, hb⟩, rfl⟩
  clear qD00 qD01 qD02 qD03 qD04 qD10 qD11 qD12 qD13 qD14
  have D0_5 := Lib.hid (D0_4.out.next hb)
  have D1_5 := Lib.hid (D1_4.out.next hb)
  have HT_5 := Lib.hid (HT_4.out.next hb)
  have HB_5 := Lib.hid (Below.next HB_4.out hb)
  clear hb D0_4 D1_4 HT_4 HB_4
  go_wp2_with (fail)
  go_ret
  exact ⟨rfl, HB_5.out⟩

/-! ### THE WALK -/
theorem walk (k0 n0 : Int) (s0 : ByteArray) (x0 y0 : Int) (k1 n1 : Int) (s1 : ByteArray) (x1 y1 : Int) (wk0 : (Lit.int .i64 k0).wf = true) (wn0 : (Lit.int .i64 n0).wf = true) (ws0 : s0.size ≤ maxLen) (wx0 : (Lit.int .i64 x0).wf = true) (wy0 : (Lit.int .i64 y0).wf = true) (wk1 : (Lit.int .i64 k1).wf = true) (wn1 : (Lit.int .i64 n1).wf = true) (ws1 : s1.size ≤ maxLen) (wx1 : (Lit.int .i64 x1).wf = true) (wy1 : (Lit.int .i64 y1).wf = true) (w : World) (hT : Ov.Tab w) : Calls Tryd.prog 5 #[.agg #[.int .i64 k0, .int .i64 n0, .string s0, .int .i64 x0, .int .i64 y0], .agg #[.int .i64 k1, .int .i64 n1, .string s1, .int .i64 x1, .int .i64 y1]] w (Ov.Gives (.bool true) w) := by
  by_cases z0 : (6000 : Int) < (s0.size : Int)
  · exact long0 k0 n0 x0 y0 k1 n1 x1 y1 s0 s1 w hT z0
  by_cases z1 : (6000 : Int) < (s1.size : Int)
  · exact long1 k0 n0 x0 y0 k1 n1 x1 y1 s0 s1 w hT z0 z1
  rcases Bool.eq_false_or_eq_true (rt ⟨k0, n0, s0.data.toList, x0, y0⟩) with h0 | h0
  · rcases Bool.eq_false_or_eq_true (rt ⟨k1, n1, s1.data.toList, x1, y1⟩) with h1 | h1
    · exact core_both k0 n0 x0 y0 k1 n1 x1 y1 s0 s1 w hT z0 z1 h0 h1
    · exact core_other k0 n0 x0 y0 k1 n1 x1 y1 s0 s1 w hT z0 z1 h0 h1
  · exact bad0 k0 n0 x0 y0 k1 n1 x1 y1 s0 s1 w hT z0 z1 h0

/-! ### THE ROW's STEP -/
/-- The door's own heap meets the condition. -/
theorem door_met (os : Os) (args : Array Value) : laidMetH Tryd.prog Rows.valuePlaysRow.laid ((World.doorLaid Tryd.prog 24 os).forCall (fun _ _ => 0) ⟨#[], args, []⟩).memory :=
  laidMetH_of_parts3 (fuel := 8) (laidMet_of_run' 8 (by kernel_rfl) (by kernel_rfl)) (by kernel_rfl) (by kernel_rfl)
set_option maxRecDepth 100000 in
theorem lifted (os : Os) (started : os.Started) (H : Type) (enc : TypeId × Value → H) :
    ReturnsInHanded {} Tryd.checked os 5 .any (fun w args => (Rows.valuePlaysSpec.pre enc Tryd.prog Tryd.f5 [] false w args ∧ laidMetH Tryd.prog Rows.valuePlaysRow.laid w) ∧ sizedMet enc Tryd.prog Tryd.f5 (OpenSpec.ofChange Rows.valuePlaysSpec) false w args)
      (Rows.valuePlaysSpec.post enc Tryd.prog Tryd.f5 false true false false) := by
  refine returnsInHanded_of_change_and (C := Tryd.checked) (X := fun w _ => laidMetH Tryd.prog Rows.valuePlaysRow.laid w) (fun _ _ _ hh h => h.of_heap hh) own started (by kernel_rfl) Tryd.func5
    (ChangeSpec.witness_shaped (enc := enc) (C := Tryd.checked) (os := os) (X := fun w _ => laidMetH Tryd.prog Rows.valuePlaysRow.laid w) false (World.doorLaid Tryd.prog 24 os) #[.agg #[.int .i64 0, .int .i64 0, .string ⟨#[]⟩, .int .i64 0, .int .i64 0], .agg #[.int .i64 0, .int .i64 0, .string ⟨#[]⟩, .int .i64 0, .int .i64 0]] 8 rfl (World.shaped_of_RefB (by kernel_rfl) (by kernel_rfl)) (by kernel_rfl) (by kernel_rfl) (by kernel_rfl) (door_met os _)) ?_
  intro W base args ds gs before hval0 hW _ _ hL _
  have hval : ∀ (j : Nat) t v, Tryd.f5.params[j]? = some t → args[j]? = some v → Value.okWide Tryd.prog W .any base t v := hval0
  have hW' := hW
  obtain ⟨p, q, hA0, hV, rfl, hfz, hnd⟩ := hW
  have hA : DataW.TrodAll enc Tryd.prog W 0 (fun _ => true) true Tryd.f5.params.toList args.toList ds p := hA0
  rw [Tryd.params5] at hA hval
  obtain ⟨v0, vs0, d0, ds0, p0, q0, hargs, rfl, rfl, h0, r0⟩ := trodAll_cons hA
  obtain ⟨v1, vs1, d1, ds1, p1, q1, rfl, rfl, rfl, h1, r1⟩ := trodAll_cons r0
  obtain ⟨rfl, rfl, rfl⟩ := trodAll_nil r1
  obtain rfl : args = #[v0, v1] := by cases args; simp_all
  obtain ⟨rfl, rfl⟩ := trodVars_none hV
  obtain ⟨k0, n0, s0, x0, y0, rfl, rfl, rfl, wk0, wn0, ws0, wx0, wy0⟩ := Va.val_of (hval 0 25 v0 rfl rfl) h0
  obtain ⟨k1, n1, s1, x1, y1, rfl, rfl, rfl, wk1, wn1, ws1, wx1, wy1⟩ := Va.val_of (hval 1 25 v1 rfl rfl) h1
  have hT : Ov.Tab W := by
    rw [MakeChecks.laidMetH_plain _ _ _ (by kernel_rfl)] at hL
    exact Ov.tab_met (d := Rows.laid_internal_strconv_uint64pow10) rfl (by simp [Rows.valuePlaysRow]) hL
  clear hA0 hval0
  simp only [List.append_nil] at hW'
  refine (walk k0 n0 s0 x0 y0 k1 n1 s1 x1 y1 wk0 wn0 ws0 wx0 wy0 wk1 wn1 ws1 wx1 wy1 W hT).mono fun e W' ⟨he, bel⟩ => ?_
  subst he
  exact ⟨_, rfl, _, _, _, [], _, [], hW', trodAll_mk1 (shut_bool Tryd.underlying4 _), (trodAll_cons_mk (Va.shut_val wk0 wn0 ws0 wx0 wy0) (trodAll_cons_mk (Va.shut_val wk1 wn1 ws1 wx1 wy1) trodAll_mk0)), rfl, bel.frame _, fun h => by cases h⟩

theorem over : Rows.ValuePlaysSaid :=
  OpenClaim.holds_of_wide 5 Tryd.f5 rfl rfl rfl rfl rfl rfl rfl ⟨rfl, rfl, rfl, rfl, rfl⟩ rfl rfl rfl rfl rfl (by kernel_rfl) Tryd.func5 (by kernel_rfl)
    (of_decide_eq_true (by kernel_rfl)) (by unfold Func.isWrapper; first | (rw [if_pos (by decide +kernel)]; kernel_rfl) | (rw [if_neg (by decide +kernel)]; exact ⟨rfl, rfl⟩))
    (fun os started H enc _ => lifted os started H enc)

/-- ████ THE STATEMENT: THE TIED CARD ████ -/
theorem proved : Rows.ValuePlaysCardSaid :=
  Claim7.holds_tied_plain_at .later [] [.data, .data, .data] true (true, "6db8aa37df9c87ca66d062f18688740b9336714075edfda8a8596ccb129de9d6") false
    over (fun _ h => by cases h) (by kernel_rfl) (fun _ h => by cases h) valuePlays_row_tie rfl ⟨rfl, rfl⟩ (by kernel_rfl) rfl
    (fun f fn hf hfn => by
      obtain rfl : f = 5 := Option.some.inj ((show Tryd.prog.funcNamed "stook/stooklaw07.ValuePlays" = some 5 by kernel_rfl).symm.trans hf) |>.symm
      obtain rfl : fn = Tryd.f5 := (Option.some.inj (Tryd.func5.symm.trans hfn)).symm
      exact ⟨by kernel_rfl, fun j t ht => by
        rw [Tryd.params5] at ht
        have hm : t ∈ [25] := by simpa using Array.mem_of_getElem? ht
        have hall : ([25].all fun u => !Tryd.prog.wantsStandIn u) = true := by kernel_rfl
        exact (show Tryd.prog.wantsStandIn t = false by simpa using List.all_eq_true.1 hall t hm)⟩)
    (by kernel_rfl)
#print axioms proved
end Go.Proofs.YtpickeicchmhnaaDoor.valuePlays
