/-
  Proved: for every input the law ValueOrder returns true, and leaves its arguments as they were; the tables that it reads lie as start-up lays them (the card ties them to the program's text). No other condition.
-/
import Derived.Test.YtpickeicchmhnaaDoorCards
import Derived.Test.YtpickeicchmhnaaDoorTie
import Derived.WalkKit
import Derived.ProofKit
import Derived.OpenShut
import Derived.ShutString
import Derived.LaidMore
import Derived.Stop.Joined
import Derived.SevenTiedAt
import Derived.Test.YtpickeicchmhnaaDoorOvLaid
import Derived.Test.YtpickeicchmhnaaDoorVaOrder
import Derived.Test.YtpickeicchmhnaaDoorVaAwake
namespace Go.Proofs.YtpickeicchmhnaaDoor.valueOrder
open Go.ChangeShapes Go.WideShapes Go.ChangeAt Go.RowKit
open Go.ChangeMaps (open_string shut_string)
set_option linter.unusedVariables false      -- a walk need not use every 'w<i>'

theorem own : ownKnob Tryd.prog.godebug = none := by kernel_rfl

open Go.Proofs.YtpickeicchmhnaaDoor.Va Go.Proofs.YtpickeicchmhnaaDoor.Ov
set_option maxHeartbeats 2000000 in
theorem bad0 (k0 n0 x0 y0 k1 n1 x1 y1 k2 n2 x2 y2 : Int) (s0 s1 s2 : ByteArray) (w : World) (hT : Tab w) (h0 : rt ⟨k0, n0, s0.data.toList, x0, y0⟩ = false) : Calls Tryd.prog 4 #[.agg #[.int .i64 k0, .int .i64 n0, .string s0, .int .i64 x0, .int .i64 y0], .agg #[.int .i64 k1, .int .i64 n1, .string s1, .int .i64 x1, .int .i64 y1], .agg #[.int .i64 k2, .int .i64 n2, .string s2, .int .i64 x2, .int .i64 y2]] w (Gives (.bool true) w) := by
  have HR0 := Lib.hid (right_val k0 n0 x0 y0 s0)
  rw [h0] at HR0; clear h0
  go_enter Tryd.func4, Tryd.ntmps4
  go_wp2_with (fail)
  have kb := box3 w (.cells #[.int .i64 k0, .int .i64 n0, .string s0, .int .i64 x0, .int .i64 y0] 25) (.cells #[.int .i64 k1, .int .i64 n1, .string s1, .int .i64 x1, .int .i64 y1] 25) (.cells #[.int .i64 k2, .int .i64 n2, .string s2, .int .i64 x2, .int .i64 y2] 25)
  have HT_0 := Lib.hid (hT.next kb)
  have HB_0 := Lib.hid kb
  clear kb
  have D0_0 : Blk (((w.alloc (.cells #[.int .i64 k0, .int .i64 n0, .string s0, .int .i64 x0, .int .i64 y0] 25)).alloc (.cells #[.int .i64 k1, .int .i64 n1, .string s1, .int .i64 x1, .int .i64 y1] 25)).alloc (.cells #[.int .i64 k2, .int .i64 n2, .string s2, .int .i64 x2, .int .i64 y2] 25)) (w.heap.size) (vcs k0 n0 s0 x0 y0) := (((Blk.made w 25 (vcs k0 n0 s0 x0 y0) rfl).old (.cells #[.int .i64 k1, .int .i64 n1, .string s1, .int .i64 x1, .int .i64 y1] 25)).old (.cells #[.int .i64 k2, .int .i64 n2, .string s2, .int .i64 x2, .int .i64 y2] 25))
  have D1_0 : Blk (((w.alloc (.cells #[.int .i64 k0, .int .i64 n0, .string s0, .int .i64 x0, .int .i64 y0] 25)).alloc (.cells #[.int .i64 k1, .int .i64 n1, .string s1, .int .i64 x1, .int .i64 y1] 25)).alloc (.cells #[.int .i64 k2, .int .i64 n2, .string s2, .int .i64 x2, .int .i64 y2] 25)) (w.heap.size + 1) (vcs k1 n1 s1 x1 y1) := ((Blk.made (w.alloc (.cells #[.int .i64 k0, .int .i64 n0, .string s0, .int .i64 x0, .int .i64 y0] 25)) 25 (vcs k1 n1 s1 x1 y1) (World.size_alloc _ _)).old (.cells #[.int .i64 k2, .int .i64 n2, .string s2, .int .i64 x2, .int .i64 y2] 25))
  have D2_0 : Blk (((w.alloc (.cells #[.int .i64 k0, .int .i64 n0, .string s0, .int .i64 x0, .int .i64 y0] 25)).alloc (.cells #[.int .i64 k1, .int .i64 n1, .string s1, .int .i64 x1, .int .i64 y1] 25)).alloc (.cells #[.int .i64 k2, .int .i64 n2, .string s2, .int .i64 x2, .int .i64 y2] 25)) (w.heap.size + 1 + 1) (vcs k2 n2 s2 x2 y2) := (Blk.made ((w.alloc (.cells #[.int .i64 k0, .int .i64 n0, .string s0, .int .i64 x0, .int .i64 y0] 25)).alloc (.cells #[.int .i64 k1, .int .i64 n1, .string s1, .int .i64 x1, .int .i64 y1] 25)) 25 (vcs k2 n2 s2 x2 y2) (by simp [World.size_alloc]))
  have D0_1 := Lib.hid D0_0; clear D0_0
  have D1_1 := Lib.hid D1_0; clear D1_0
  have D2_1 := Lib.hid D2_0; clear D2_0
  generalize ((w.alloc (.cells #[.int .i64 k0, .int .i64 n0, .string s0, .int .i64 x0, .int .i64 y0] 25)).alloc (.cells #[.int .i64 k1, .int .i64 n1, .string s1, .int .i64 x1, .int .i64 y1] 25)).alloc (.cells #[.int .i64 k2, .int .i64 n2, .string s2, .int .i64 x2, .int .i64 y2] 25) = v at *
  refine (awake_any _ HT_0.out).mono ?_
  rintro e u2 ⟨rfl, hb⟩
  have D0_2 := Lib.hid (D0_1.out.next hb)
  have D1_2 := Lib.hid (D1_1.out.next hb)
  have D2_2 := Lib.hid (D2_1.out.next hb)
  have HT_2 := Lib.hid (HT_0.out.next hb)
  have HB_2 := Lib.hid (Below.next HB_0.out hb)
  clear hb D0_1 D1_1 D2_1 HT_0 HB_0
  have cD00 := D0_2.out.v0; have cD01 := D0_2.out.v1; have cD02 := D0_2.out.v2; have cD03 := D0_2.out.v3; have cD04 := D0_2.out.v4
  go_wp2_with (fail)
  clear cD00 cD01 cD02 cD03 cD04
  refine (HR0.out _).mono ?_
  rintro e u3 ⟨rfl, hb⟩
  have D0_3 := Lib.hid (D0_2.out.next hb)
  have D1_3 := Lib.hid (D1_2.out.next hb)
  have D2_3 := Lib.hid (D2_2.out.next hb)
  have HT_3 := Lib.hid (HT_2.out.next hb)
  have HB_3 := Lib.hid (Below.next HB_2.out hb)
  clear hb D0_2 D1_2 D2_2 HT_2 HB_2
  go_wp2_with (fail)
  refine (awake_any _ HT_3.out).mono ?_
  rintro e u4 ⟨rfl, hb⟩
  clear D0_3
  clear D1_3
  clear D2_3
  have HT_4 := Lib.hid (HT_3.out.next hb)
  have HB_4 := Lib.hid (Below.next HB_3.out hb)
  clear hb HT_3 HB_3
  go_wp2_with (fail)
  go_ret
  exact ⟨rfl, HB_4.out⟩
set_option maxHeartbeats 2000000 in
theorem bad1 (k0 n0 x0 y0 k1 n1 x1 y1 k2 n2 x2 y2 : Int) (s0 s1 s2 : ByteArray) (w : World) (hT : Tab w) (h0 : rt ⟨k0, n0, s0.data.toList, x0, y0⟩ = true) (h1 : rt ⟨k1, n1, s1.data.toList, x1, y1⟩ = false) : Calls Tryd.prog 4 #[.agg #[.int .i64 k0, .int .i64 n0, .string s0, .int .i64 x0, .int .i64 y0], .agg #[.int .i64 k1, .int .i64 n1, .string s1, .int .i64 x1, .int .i64 y1], .agg #[.int .i64 k2, .int .i64 n2, .string s2, .int .i64 x2, .int .i64 y2]] w (Gives (.bool true) w) := by
  have HR0 := Lib.hid (right_val k0 n0 x0 y0 s0)
  rw [h0] at HR0; clear h0
  have HR1 := Lib.hid (right_val k1 n1 x1 y1 s1)
  rw [h1] at HR1; clear h1
  go_enter Tryd.func4, Tryd.ntmps4
  go_wp2_with (fail)
  have kb := box3 w (.cells #[.int .i64 k0, .int .i64 n0, .string s0, .int .i64 x0, .int .i64 y0] 25) (.cells #[.int .i64 k1, .int .i64 n1, .string s1, .int .i64 x1, .int .i64 y1] 25) (.cells #[.int .i64 k2, .int .i64 n2, .string s2, .int .i64 x2, .int .i64 y2] 25)
  have HT_0 := Lib.hid (hT.next kb)
  have HB_0 := Lib.hid kb
  clear kb
  have D0_0 : Blk (((w.alloc (.cells #[.int .i64 k0, .int .i64 n0, .string s0, .int .i64 x0, .int .i64 y0] 25)).alloc (.cells #[.int .i64 k1, .int .i64 n1, .string s1, .int .i64 x1, .int .i64 y1] 25)).alloc (.cells #[.int .i64 k2, .int .i64 n2, .string s2, .int .i64 x2, .int .i64 y2] 25)) (w.heap.size) (vcs k0 n0 s0 x0 y0) := (((Blk.made w 25 (vcs k0 n0 s0 x0 y0) rfl).old (.cells #[.int .i64 k1, .int .i64 n1, .string s1, .int .i64 x1, .int .i64 y1] 25)).old (.cells #[.int .i64 k2, .int .i64 n2, .string s2, .int .i64 x2, .int .i64 y2] 25))
  have D1_0 : Blk (((w.alloc (.cells #[.int .i64 k0, .int .i64 n0, .string s0, .int .i64 x0, .int .i64 y0] 25)).alloc (.cells #[.int .i64 k1, .int .i64 n1, .string s1, .int .i64 x1, .int .i64 y1] 25)).alloc (.cells #[.int .i64 k2, .int .i64 n2, .string s2, .int .i64 x2, .int .i64 y2] 25)) (w.heap.size + 1) (vcs k1 n1 s1 x1 y1) := ((Blk.made (w.alloc (.cells #[.int .i64 k0, .int .i64 n0, .string s0, .int .i64 x0, .int .i64 y0] 25)) 25 (vcs k1 n1 s1 x1 y1) (World.size_alloc _ _)).old (.cells #[.int .i64 k2, .int .i64 n2, .string s2, .int .i64 x2, .int .i64 y2] 25))
  have D2_0 : Blk (((w.alloc (.cells #[.int .i64 k0, .int .i64 n0, .string s0, .int .i64 x0, .int .i64 y0] 25)).alloc (.cells #[.int .i64 k1, .int .i64 n1, .string s1, .int .i64 x1, .int .i64 y1] 25)).alloc (.cells #[.int .i64 k2, .int .i64 n2, .string s2, .int .i64 x2, .int .i64 y2] 25)) (w.heap.size + 1 + 1) (vcs k2 n2 s2 x2 y2) := (Blk.made ((w.alloc (.cells #[.int .i64 k0, .int .i64 n0, .string s0, .int .i64 x0, .int .i64 y0] 25)).alloc (.cells #[.int .i64 k1, .int .i64 n1, .string s1, .int .i64 x1, .int .i64 y1] 25)) 25 (vcs k2 n2 s2 x2 y2) (by simp [World.size_alloc]))
  have D0_1 := Lib.hid D0_0; clear D0_0
  have D1_1 := Lib.hid D1_0; clear D1_0
  have D2_1 := Lib.hid D2_0; clear D2_0
  generalize ((w.alloc (.cells #[.int .i64 k0, .int .i64 n0, .string s0, .int .i64 x0, .int .i64 y0] 25)).alloc (.cells #[.int .i64 k1, .int .i64 n1, .string s1, .int .i64 x1, .int .i64 y1] 25)).alloc (.cells #[.int .i64 k2, .int .i64 n2, .string s2, .int .i64 x2, .int .i64 y2] 25) = v at *
  refine (awake_any _ HT_0.out).mono ?_
  rintro e u2 ⟨rfl, hb⟩
  have D0_2 := Lib.hid (D0_1.out.next hb)
  have D1_2 := Lib.hid (D1_1.out.next hb)
  have D2_2 := Lib.hid (D2_1.out.next hb)
  have HT_2 := Lib.hid (HT_0.out.next hb)
  have HB_2 := Lib.hid (Below.next HB_0.out hb)
  clear hb D0_1 D1_1 D2_1 HT_0 HB_0
  have cD00 := D0_2.out.v0; have cD01 := D0_2.out.v1; have cD02 := D0_2.out.v2; have cD03 := D0_2.out.v3; have cD04 := D0_2.out.v4
  go_wp2_with (fail)
  clear cD00 cD01 cD02 cD03 cD04
  refine (HR0.out _).mono ?_
  rintro e u3 ⟨rfl, hb⟩
  have D0_3 := Lib.hid (D0_2.out.next hb)
  have D1_3 := Lib.hid (D1_2.out.next hb)
  have D2_3 := Lib.hid (D2_2.out.next hb)
  have HT_3 := Lib.hid (HT_2.out.next hb)
  have HB_3 := Lib.hid (Below.next HB_2.out hb)
  clear hb D0_2 D1_2 D2_2 HT_2 HB_2
  have cD10 := D1_3.out.v0; have cD11 := D1_3.out.v1; have cD12 := D1_3.out.v2; have cD13 := D1_3.out.v3; have cD14 := D1_3.out.v4
  go_wp2_with (fail)
  clear cD10 cD11 cD12 cD13 cD14
  refine (HR1.out _).mono ?_
  rintro e u4 ⟨rfl, hb⟩
  have D0_4 := Lib.hid (D0_3.out.next hb)
  have D1_4 := Lib.hid (D1_3.out.next hb)
  have D2_4 := Lib.hid (D2_3.out.next hb)
  have HT_4 := Lib.hid (HT_3.out.next hb)
  have HB_4 := Lib.hid (Below.next HB_3.out hb)
  clear hb D0_3 D1_3 D2_3 HT_3 HB_3
  go_wp2_with (fail)
  refine (awake_any _ HT_4.out).mono ?_
  rintro e u5 ⟨rfl, hb⟩
  clear D0_4
  clear D1_4
  clear D2_4
  have HT_5 := Lib.hid (HT_4.out.next hb)
  have HB_5 := Lib.hid (Below.next HB_4.out hb)
  clear hb HT_4 HB_4
  go_wp2_with (fail)
  go_ret
  exact ⟨rfl, HB_5.out⟩
set_option maxHeartbeats 2000000 in
theorem bad2 (k0 n0 x0 y0 k1 n1 x1 y1 k2 n2 x2 y2 : Int) (s0 s1 s2 : ByteArray) (w : World) (hT : Tab w) (h0 : rt ⟨k0, n0, s0.data.toList, x0, y0⟩ = true) (h1 : rt ⟨k1, n1, s1.data.toList, x1, y1⟩ = true) (h2 : rt ⟨k2, n2, s2.data.toList, x2, y2⟩ = false) : Calls Tryd.prog 4 #[.agg #[.int .i64 k0, .int .i64 n0, .string s0, .int .i64 x0, .int .i64 y0], .agg #[.int .i64 k1, .int .i64 n1, .string s1, .int .i64 x1, .int .i64 y1], .agg #[.int .i64 k2, .int .i64 n2, .string s2, .int .i64 x2, .int .i64 y2]] w (Gives (.bool true) w) := by
  have HR0 := Lib.hid (right_val k0 n0 x0 y0 s0)
  rw [h0] at HR0; clear h0
  have HR1 := Lib.hid (right_val k1 n1 x1 y1 s1)
  rw [h1] at HR1; clear h1
  have HR2 := Lib.hid (right_val k2 n2 x2 y2 s2)
  rw [h2] at HR2; clear h2
  go_enter Tryd.func4, Tryd.ntmps4
  go_wp2_with (fail)
  have kb := box3 w (.cells #[.int .i64 k0, .int .i64 n0, .string s0, .int .i64 x0, .int .i64 y0] 25) (.cells #[.int .i64 k1, .int .i64 n1, .string s1, .int .i64 x1, .int .i64 y1] 25) (.cells #[.int .i64 k2, .int .i64 n2, .string s2, .int .i64 x2, .int .i64 y2] 25)
  have HT_0 := Lib.hid (hT.next kb)
  have HB_0 := Lib.hid kb
  clear kb
  have D0_0 : Blk (((w.alloc (.cells #[.int .i64 k0, .int .i64 n0, .string s0, .int .i64 x0, .int .i64 y0] 25)).alloc (.cells #[.int .i64 k1, .int .i64 n1, .string s1, .int .i64 x1, .int .i64 y1] 25)).alloc (.cells #[.int .i64 k2, .int .i64 n2, .string s2, .int .i64 x2, .int .i64 y2] 25)) (w.heap.size) (vcs k0 n0 s0 x0 y0) := (((Blk.made w 25 (vcs k0 n0 s0 x0 y0) rfl).old (.cells #[.int .i64 k1, .int .i64 n1, .string s1, .int .i64 x1, .int .i64 y1] 25)).old (.cells #[.int .i64 k2, .int .i64 n2, .string s2, .int .i64 x2, .int .i64 y2] 25))
  have D1_0 : Blk (((w.alloc (.cells #[.int .i64 k0, .int .i64 n0, .string s0, .int .i64 x0, .int .i64 y0] 25)).alloc (.cells #[.int .i64 k1, .int .i64 n1, .string s1, .int .i64 x1, .int .i64 y1] 25)).alloc (.cells #[.int .i64 k2, .int .i64 n2, .string s2, .int .i64 x2, .int .i64 y2] 25)) (w.heap.size + 1) (vcs k1 n1 s1 x1 y1) := ((Blk.made (w.alloc (.cells #[.int .i64 k0, .int .i64 n0, .string s0, .int .i64 x0, .int .i64 y0] 25)) 25 (vcs k1 n1 s1 x1 y1) (World.size_alloc _ _)).old (.cells #[.int .i64 k2, .int .i64 n2, .string s2, .int .i64 x2, .int .i64 y2] 25))
  have D2_0 : Blk (((w.alloc (.cells #[.int .i64 k0, .int .i64 n0, .string s0, .int .i64 x0, .int .i64 y0] 25)).alloc (.cells #[.int .i64 k1, .int .i64 n1, .string s1, .int .i64 x1, .int .i64 y1] 25)).alloc (.cells #[.int .i64 k2, .int .i64 n2, .string s2, .int .i64 x2, .int .i64 y2] 25)) (w.heap.size + 1 + 1) (vcs k2 n2 s2 x2 y2) := (Blk.made ((w.alloc (.cells #[.int .i64 k0, .int .i64 n0, .string s0, .int .i64 x0, .int .i64 y0] 25)).alloc (.cells #[.int .i64 k1, .int .i64 n1, .string s1, .int .i64 x1, .int .i64 y1] 25)) 25 (vcs k2 n2 s2 x2 y2) (by simp [World.size_alloc]))
  have D0_1 := Lib.hid D0_0; clear D0_0
  have D1_1 := Lib.hid D1_0; clear D1_0
  have D2_1 := Lib.hid D2_0; clear D2_0
  generalize ((w.alloc (.cells #[.int .i64 k0, .int .i64 n0, .string s0, .int .i64 x0, .int .i64 y0] 25)).alloc (.cells #[.int .i64 k1, .int .i64 n1, .string s1, .int .i64 x1, .int .i64 y1] 25)).alloc (.cells #[.int .i64 k2, .int .i64 n2, .string s2, .int .i64 x2, .int .i64 y2] 25) = v at *
  refine (awake_any _ HT_0.out).mono ?_
  rintro e u2 ⟨rfl, hb⟩
  have D0_2 := Lib.hid (D0_1.out.next hb)
  have D1_2 := Lib.hid (D1_1.out.next hb)
  have D2_2 := Lib.hid (D2_1.out.next hb)
  have HT_2 := Lib.hid (HT_0.out.next hb)
  have HB_2 := Lib.hid (Below.next HB_0.out hb)
  clear hb D0_1 D1_1 D2_1 HT_0 HB_0
  have cD00 := D0_2.out.v0; have cD01 := D0_2.out.v1; have cD02 := D0_2.out.v2; have cD03 := D0_2.out.v3; have cD04 := D0_2.out.v4
  go_wp2_with (fail)
  clear cD00 cD01 cD02 cD03 cD04
  refine (HR0.out _).mono ?_
  rintro e u3 ⟨rfl, hb⟩
  have D0_3 := Lib.hid (D0_2.out.next hb)
  have D1_3 := Lib.hid (D1_2.out.next hb)
  have D2_3 := Lib.hid (D2_2.out.next hb)
  have HT_3 := Lib.hid (HT_2.out.next hb)
  have HB_3 := Lib.hid (Below.next HB_2.out hb)
  clear hb D0_2 D1_2 D2_2 HT_2 HB_2
  have cD10 := D1_3.out.v0; have cD11 := D1_3.out.v1; have cD12 := D1_3.out.v2; have cD13 := D1_3.out.v3; have cD14 := D1_3.out.v4
  go_wp2_with (fail)
  clear cD10 cD11 cD12 cD13 cD14
  refine (HR1.out _).mono ?_
  rintro e u4 ⟨rfl, hb⟩
  have D0_4 := Lib.hid (D0_3.out.next hb)
  have D1_4 := Lib.hid (D1_3.out.next hb)
  have D2_4 := Lib.hid (D2_3.out.next hb)
  have HT_4 := Lib.hid (HT_3.out.next hb)
  have HB_4 := Lib.hid (Below.next HB_3.out hb)
  clear hb D0_3 D1_3 D2_3 HT_3 HB_3
  have cD20 := D2_4.out.v0; have cD21 := D2_4.out.v1; have cD22 := D2_4.out.v2; have cD23 := D2_4.out.v3; have cD24 := D2_4.out.v4
  go_wp2_with (fail)
  clear cD20 cD21 cD22 cD23 cD24
  refine (HR2.out _).mono ?_
  rintro e u5 ⟨rfl, hb⟩
  have D0_5 := Lib.hid (D0_4.out.next hb)
  have D1_5 := Lib.hid (D1_4.out.next hb)
  have D2_5 := Lib.hid (D2_4.out.next hb)
  have HT_5 := Lib.hid (HT_4.out.next hb)
  have HB_5 := Lib.hid (Below.next HB_4.out hb)
  clear hb D0_4 D1_4 D2_4 HT_4 HB_4
  go_wp2_with (fail)
  refine (awake_any _ HT_5.out).mono ?_
  rintro e u6 ⟨rfl, hb⟩
  clear D0_5
  clear D1_5
  clear D2_5
  have HT_6 := Lib.hid (HT_5.out.next hb)
  have HB_6 := Lib.hid (Below.next HB_5.out hb)
  clear hb HT_5 HB_5
  go_wp2_with (fail)
  go_ret
  exact ⟨rfl, HB_6.out⟩
set_option maxHeartbeats 4000000 in
theorem core_pos (k0 n0 x0 y0 k1 n1 x1 y1 k2 n2 x2 y2 : Int) (s0 s1 s2 : ByteArray) (w : World) (hT : Tab w) (h0 : rt ⟨k0, n0, s0.data.toList, x0, y0⟩ = true) (h1 : rt ⟨k1, n1, s1.data.toList, x1, y1⟩ = true) (h2 : rt ⟨k2, n2, s2.data.toList, x2, y2⟩ = true) {q t : Int} (hq : -1 ≤ q ∧ q ≤ 1) (ht : -1 ≤ t ∧ t ≤ 1)
    (e01 : ord ⟨k0, n0, s0.data.toList, x0, y0⟩ ⟨k1, n1, s1.data.toList, x1, y1⟩ = 1) (e10 : ord ⟨k1, n1, s1.data.toList, x1, y1⟩ ⟨k0, n0, s0.data.toList, x0, y0⟩ = (-1)) (e12 : ord ⟨k1, n1, s1.data.toList, x1, y1⟩ ⟨k2, n2, s2.data.toList, x2, y2⟩ = q) (e02 : ord ⟨k0, n0, s0.data.toList, x0, y0⟩ ⟨k2, n2, s2.data.toList, x2, y2⟩ = t) (ez : ve ⟨k0, n0, s0.data.toList, x0, y0⟩ ⟨k1, n1, s1.data.toList, x1, y1⟩ = false) : Calls Tryd.prog 4 #[.agg #[.int .i64 k0, .int .i64 n0, .string s0, .int .i64 x0, .int .i64 y0], .agg #[.int .i64 k1, .int .i64 n1, .string s1, .int .i64 x1, .int .i64 y1], .agg #[.int .i64 k2, .int .i64 n2, .string s2, .int .i64 x2, .int .i64 y2]] w (Gives (.bool true) w) := by
  have HR0 := Lib.hid (right_val k0 n0 x0 y0 s0)
  rw [h0] at HR0; clear h0
  have HR1 := Lib.hid (right_val k1 n1 x1 y1 s1)
  rw [h1] at HR1; clear h1
  have HR2 := Lib.hid (right_val k2 n2 x2 y2 s2)
  rw [h2] at HR2; clear h2
  have HO01 := Lib.hid (order_val k0 n0 x0 y0 k1 n1 x1 y1 s0 s1); rw [e01] at HO01; clear e01
  have HO10 := Lib.hid (order_val k1 n1 x1 y1 k0 n0 x0 y0 s1 s0); rw [e10] at HO10; clear e10
  have HO12 := Lib.hid (order_val k1 n1 x1 y1 k2 n2 x2 y2 s1 s2); rw [e12] at HO12; clear e12
  have HO02 := Lib.hid (order_val k0 n0 x0 y0 k2 n2 x2 y2 s0 s2); rw [e02] at HO02; clear e02
  have hE := eql_val k0 n0 x0 y0 k1 n1 x1 y1 s0 s1; rw [ez] at hE; clear ez
  obtain ⟨q1, q2⟩ := hq
  obtain ⟨t1, t2⟩ := ht
  go_enter Tryd.func4, Tryd.ntmps4
  go_wp2_with (fail)
  have kb := box3 w (.cells #[.int .i64 k0, .int .i64 n0, .string s0, .int .i64 x0, .int .i64 y0] 25) (.cells #[.int .i64 k1, .int .i64 n1, .string s1, .int .i64 x1, .int .i64 y1] 25) (.cells #[.int .i64 k2, .int .i64 n2, .string s2, .int .i64 x2, .int .i64 y2] 25)
  have HT_0 := Lib.hid (hT.next kb)
  have HB_0 := Lib.hid kb
  clear kb
  have D0_0 : Blk (((w.alloc (.cells #[.int .i64 k0, .int .i64 n0, .string s0, .int .i64 x0, .int .i64 y0] 25)).alloc (.cells #[.int .i64 k1, .int .i64 n1, .string s1, .int .i64 x1, .int .i64 y1] 25)).alloc (.cells #[.int .i64 k2, .int .i64 n2, .string s2, .int .i64 x2, .int .i64 y2] 25)) (w.heap.size) (vcs k0 n0 s0 x0 y0) := (((Blk.made w 25 (vcs k0 n0 s0 x0 y0) rfl).old (.cells #[.int .i64 k1, .int .i64 n1, .string s1, .int .i64 x1, .int .i64 y1] 25)).old (.cells #[.int .i64 k2, .int .i64 n2, .string s2, .int .i64 x2, .int .i64 y2] 25))
  have D1_0 : Blk (((w.alloc (.cells #[.int .i64 k0, .int .i64 n0, .string s0, .int .i64 x0, .int .i64 y0] 25)).alloc (.cells #[.int .i64 k1, .int .i64 n1, .string s1, .int .i64 x1, .int .i64 y1] 25)).alloc (.cells #[.int .i64 k2, .int .i64 n2, .string s2, .int .i64 x2, .int .i64 y2] 25)) (w.heap.size + 1) (vcs k1 n1 s1 x1 y1) := ((Blk.made (w.alloc (.cells #[.int .i64 k0, .int .i64 n0, .string s0, .int .i64 x0, .int .i64 y0] 25)) 25 (vcs k1 n1 s1 x1 y1) (World.size_alloc _ _)).old (.cells #[.int .i64 k2, .int .i64 n2, .string s2, .int .i64 x2, .int .i64 y2] 25))
  have D2_0 : Blk (((w.alloc (.cells #[.int .i64 k0, .int .i64 n0, .string s0, .int .i64 x0, .int .i64 y0] 25)).alloc (.cells #[.int .i64 k1, .int .i64 n1, .string s1, .int .i64 x1, .int .i64 y1] 25)).alloc (.cells #[.int .i64 k2, .int .i64 n2, .string s2, .int .i64 x2, .int .i64 y2] 25)) (w.heap.size + 1 + 1) (vcs k2 n2 s2 x2 y2) := (Blk.made ((w.alloc (.cells #[.int .i64 k0, .int .i64 n0, .string s0, .int .i64 x0, .int .i64 y0] 25)).alloc (.cells #[.int .i64 k1, .int .i64 n1, .string s1, .int .i64 x1, .int .i64 y1] 25)) 25 (vcs k2 n2 s2 x2 y2) (by simp [World.size_alloc]))
  have D0_1 := Lib.hid D0_0; clear D0_0
  have D1_1 := Lib.hid D1_0; clear D1_0
  have D2_1 := Lib.hid D2_0; clear D2_0
  generalize ((w.alloc (.cells #[.int .i64 k0, .int .i64 n0, .string s0, .int .i64 x0, .int .i64 y0] 25)).alloc (.cells #[.int .i64 k1, .int .i64 n1, .string s1, .int .i64 x1, .int .i64 y1] 25)).alloc (.cells #[.int .i64 k2, .int .i64 n2, .string s2, .int .i64 x2, .int .i64 y2] 25) = v at *
  refine (awake_any _ HT_0.out).mono ?_
  rintro e u2 ⟨rfl, hb⟩
  have D0_2 := Lib.hid (D0_1.out.next hb)
  have D1_2 := Lib.hid (D1_1.out.next hb)
  have D2_2 := Lib.hid (D2_1.out.next hb)
  have HT_2 := Lib.hid (HT_0.out.next hb)
  have HB_2 := Lib.hid (Below.next HB_0.out hb)
  clear hb D0_1 D1_1 D2_1 HT_0 HB_0
  have cD00 := D0_2.out.v0; have cD01 := D0_2.out.v1; have cD02 := D0_2.out.v2; have cD03 := D0_2.out.v3; have cD04 := D0_2.out.v4
  go_wp2_with (fail)
  clear cD00 cD01 cD02 cD03 cD04
  refine (HR0.out _).mono ?_
  rintro e u3 ⟨rfl, hb⟩
  have D0_3 := Lib.hid (D0_2.out.next hb)
  have D1_3 := Lib.hid (D1_2.out.next hb)
  have D2_3 := Lib.hid (D2_2.out.next hb)
  have HT_3 := Lib.hid (HT_2.out.next hb)
  have HB_3 := Lib.hid (Below.next HB_2.out hb)
  clear hb D0_2 D1_2 D2_2 HT_2 HB_2
  have cD10 := D1_3.out.v0; have cD11 := D1_3.out.v1; have cD12 := D1_3.out.v2; have cD13 := D1_3.out.v3; have cD14 := D1_3.out.v4
  go_wp2_with (fail)
  clear cD10 cD11 cD12 cD13 cD14
  refine (HR1.out _).mono ?_
  rintro e u4 ⟨rfl, hb⟩
  have D0_4 := Lib.hid (D0_3.out.next hb)
  have D1_4 := Lib.hid (D1_3.out.next hb)
  have D2_4 := Lib.hid (D2_3.out.next hb)
  have HT_4 := Lib.hid (HT_3.out.next hb)
  have HB_4 := Lib.hid (Below.next HB_3.out hb)
  clear hb D0_3 D1_3 D2_3 HT_3 HB_3
  have cD20 := D2_4.out.v0; have cD21 := D2_4.out.v1; have cD22 := D2_4.out.v2; have cD23 := D2_4.out.v3; have cD24 := D2_4.out.v4
  go_wp2_with (fail)
  clear cD20 cD21 cD22 cD23 cD24
  refine (HR2.out _).mono ?_
  rintro e u5 ⟨rfl, hb⟩
  have D0_5 := Lib.hid (D0_4.out.next hb)
  have D1_5 := Lib.hid (D1_4.out.next hb)
  have D2_5 := Lib.hid (D2_4.out.next hb)
  have HT_5 := Lib.hid (HT_4.out.next hb)
  have HB_5 := Lib.hid (Below.next HB_4.out hb)
  clear hb D0_4 D1_4 D2_4 HT_4 HB_4
  go_wp2_with (fail)
  have qD00 := fun r : Over u5 => (D0_5.out.over r).v0
  have qD01 := fun r : Over u5 => (D0_5.out.over r).v1
  have qD02 := fun r : Over u5 => (D0_5.out.over r).v2
  have qD03 := fun r : Over u5 => (D0_5.out.over r).v3
  have qD04 := fun r : Over u5 => (D0_5.out.over r).v4
  have qD10 := fun r : Over u5 => (D1_5.out.over r).v0
  have qD11 := fun r : Over u5 => (D1_5.out.over r).v1
  have qD12 := fun r : Over u5 => (D1_5.out.over r).v2
  have qD13 := fun r : Over u5 => (D1_5.out.over r).v3
  have qD14 := fun r : Over u5 => (D1_5.out.over r).v4
  have qD20 := fun r : Over u5 => (D2_5.out.over r).v0
  have qD21 := fun r : Over u5 => (D2_5.out.over r).v1
  have qD22 := fun r : Over u5 => (D2_5.out.over r).v2
  have qD23 := fun r : Over u5 => (D2_5.out.over r).v3
  have qD24 := fun r : Over u5 => (D2_5.out.over r).v4
  refine wp_over (by kernel_rfl) (by kernel_rfl) ?_
  repeat (go_big_quiet_step (first | fail | with_reducible exact over_gives _ (HO01.out _) | with_reducible exact over_gives _ (HO12.out _)))
  refine wpQuiet_nil ?_
  rintro u6 ⟨⟨u6, hb⟩, rfl⟩
  clear qD00 qD01 qD02 qD03 qD04 qD10 qD11 qD12 qD13 qD14 qD20 qD21 qD22 qD23 qD24
  have D0_6 := Lib.hid (D0_5.out.next hb)
  have D1_6 := Lib.hid (D1_5.out.next hb)
  have D2_6 := Lib.hid (D2_5.out.next hb)
  have HT_6 := Lib.hid (HT_5.out.next hb)
  have HB_6 := Lib.hid (Below.next HB_5.out hb)
  clear hb D0_5 D1_5 D2_5 HT_5 HB_5
  have cD00 := D0_6.out.v0; have cD01 := D0_6.out.v1; have cD02 := D0_6.out.v2; have cD03 := D0_6.out.v3; have cD04 := D0_6.out.v4; have cD10 := D1_6.out.v0; have cD11 := D1_6.out.v1; have cD12 := D1_6.out.v2; have cD13 := D1_6.out.v3; have cD14 := D1_6.out.v4
  go_wp2_with (fail)
  clear cD00 cD01 cD02 cD03 cD04 cD10 cD11 cD12 cD13 cD14
  refine (HO10.out _).mono ?_
  rintro e u7 ⟨rfl, hb⟩
  have D0_7 := Lib.hid (D0_6.out.next hb)
  have D1_7 := Lib.hid (D1_6.out.next hb)
  have D2_7 := Lib.hid (D2_6.out.next hb)
  have HT_7 := Lib.hid (HT_6.out.next hb)
  have HB_7 := Lib.hid (Below.next HB_6.out hb)
  clear hb D0_6 D1_6 D2_6 HT_6 HB_6
  have cD00 := D0_7.out.v0; have cD01 := D0_7.out.v1; have cD02 := D0_7.out.v2; have cD03 := D0_7.out.v3; have cD04 := D0_7.out.v4; have cD10 := D1_7.out.v0; have cD11 := D1_7.out.v1; have cD12 := D1_7.out.v2; have cD13 := D1_7.out.v3; have cD14 := D1_7.out.v4; have cD20 := D2_7.out.v0; have cD21 := D2_7.out.v1; have cD22 := D2_7.out.v2; have cD23 := D2_7.out.v3; have cD24 := D2_7.out.v4
  go_wp2_with (fail)
  clear cD00 cD01 cD02 cD03 cD04 cD10 cD11 cD12 cD13 cD14 cD20 cD21 cD22 cD23 cD24
  refine (HO02.out _).mono ?_
  rintro e u8 ⟨rfl, hb⟩
  have D0_8 := Lib.hid (D0_7.out.next hb)
  have D1_8 := Lib.hid (D1_7.out.next hb)
  have D2_8 := Lib.hid (D2_7.out.next hb)
  have HT_8 := Lib.hid (HT_7.out.next hb)
  have HB_8 := Lib.hid (Below.next HB_7.out hb)
  clear hb D0_7 D1_7 D2_7 HT_7 HB_7
  go_wp2_with (fail)
  go_ret
  exact ⟨rfl, HB_8.out⟩
set_option maxHeartbeats 4000000 in
theorem core_0q (k0 n0 x0 y0 k1 n1 x1 y1 k2 n2 x2 y2 : Int) (s0 s1 s2 : ByteArray) (w : World) (hT : Tab w) (h0 : rt ⟨k0, n0, s0.data.toList, x0, y0⟩ = true) (h1 : rt ⟨k1, n1, s1.data.toList, x1, y1⟩ = true) (h2 : rt ⟨k2, n2, s2.data.toList, x2, y2⟩ = true) {q t : Int} (hq : 0 < q ∧ q ≤ 1) (ht : -1 ≤ t ∧ t ≤ 1)
    (e01 : ord ⟨k0, n0, s0.data.toList, x0, y0⟩ ⟨k1, n1, s1.data.toList, x1, y1⟩ = 0) (e10 : ord ⟨k1, n1, s1.data.toList, x1, y1⟩ ⟨k0, n0, s0.data.toList, x0, y0⟩ = 0) (e12 : ord ⟨k1, n1, s1.data.toList, x1, y1⟩ ⟨k2, n2, s2.data.toList, x2, y2⟩ = q) (e02 : ord ⟨k0, n0, s0.data.toList, x0, y0⟩ ⟨k2, n2, s2.data.toList, x2, y2⟩ = t) (ez : ve ⟨k0, n0, s0.data.toList, x0, y0⟩ ⟨k1, n1, s1.data.toList, x1, y1⟩ = true) : Calls Tryd.prog 4 #[.agg #[.int .i64 k0, .int .i64 n0, .string s0, .int .i64 x0, .int .i64 y0], .agg #[.int .i64 k1, .int .i64 n1, .string s1, .int .i64 x1, .int .i64 y1], .agg #[.int .i64 k2, .int .i64 n2, .string s2, .int .i64 x2, .int .i64 y2]] w (Gives (.bool true) w) := by
  have HR0 := Lib.hid (right_val k0 n0 x0 y0 s0)
  rw [h0] at HR0; clear h0
  have HR1 := Lib.hid (right_val k1 n1 x1 y1 s1)
  rw [h1] at HR1; clear h1
  have HR2 := Lib.hid (right_val k2 n2 x2 y2 s2)
  rw [h2] at HR2; clear h2
  have HO01 := Lib.hid (order_val k0 n0 x0 y0 k1 n1 x1 y1 s0 s1); rw [e01] at HO01; clear e01
  have HO10 := Lib.hid (order_val k1 n1 x1 y1 k0 n0 x0 y0 s1 s0); rw [e10] at HO10; clear e10
  have HO12 := Lib.hid (order_val k1 n1 x1 y1 k2 n2 x2 y2 s1 s2); rw [e12] at HO12; clear e12
  have HO02 := Lib.hid (order_val k0 n0 x0 y0 k2 n2 x2 y2 s0 s2); rw [e02] at HO02; clear e02
  have hE := eql_val k0 n0 x0 y0 k1 n1 x1 y1 s0 s1; rw [ez] at hE; clear ez
  obtain ⟨q1, q2⟩ := hq
  obtain ⟨t1, t2⟩ := ht
  go_enter Tryd.func4, Tryd.ntmps4
  go_wp2_with (fail)
  have kb := box3 w (.cells #[.int .i64 k0, .int .i64 n0, .string s0, .int .i64 x0, .int .i64 y0] 25) (.cells #[.int .i64 k1, .int .i64 n1, .string s1, .int .i64 x1, .int .i64 y1] 25) (.cells #[.int .i64 k2, .int .i64 n2, .string s2, .int .i64 x2, .int .i64 y2] 25)
  have HT_0 := Lib.hid (hT.next kb)
  have HB_0 := Lib.hid kb
  clear kb
  have D0_0 : Blk (((w.alloc (.cells #[.int .i64 k0, .int .i64 n0, .string s0, .int .i64 x0, .int .i64 y0] 25)).alloc (.cells #[.int .i64 k1, .int .i64 n1, .string s1, .int .i64 x1, .int .i64 y1] 25)).alloc (.cells #[.int .i64 k2, .int .i64 n2, .string s2, .int .i64 x2, .int .i64 y2] 25)) (w.heap.size) (vcs k0 n0 s0 x0 y0) := (((Blk.made w 25 (vcs k0 n0 s0 x0 y0) rfl).old (.cells #[.int .i64 k1, .int .i64 n1, .string s1, .int .i64 x1, .int .i64 y1] 25)).old (.cells #[.int .i64 k2, .int .i64 n2, .string s2, .int .i64 x2, .int .i64 y2] 25))
  have D1_0 : Blk (((w.alloc (.cells #[.int .i64 k0, .int .i64 n0, .string s0, .int .i64 x0, .int .i64 y0] 25)).alloc (.cells #[.int .i64 k1, .int .i64 n1, .string s1, .int .i64 x1, .int .i64 y1] 25)).alloc (.cells #[.int .i64 k2, .int .i64 n2, .string s2, .int .i64 x2, .int .i64 y2] 25)) (w.heap.size + 1) (vcs k1 n1 s1 x1 y1) := ((Blk.made (w.alloc (.cells #[.int .i64 k0, .int .i64 n0, .string s0, .int .i64 x0, .int .i64 y0] 25)) 25 (vcs k1 n1 s1 x1 y1) (World.size_alloc _ _)).old (.cells #[.int .i64 k2, .int .i64 n2, .string s2, .int .i64 x2, .int .i64 y2] 25))
  have D2_0 : Blk (((w.alloc (.cells #[.int .i64 k0, .int .i64 n0, .string s0, .int .i64 x0, .int .i64 y0] 25)).alloc (.cells #[.int .i64 k1, .int .i64 n1, .string s1, .int .i64 x1, .int .i64 y1] 25)).alloc (.cells #[.int .i64 k2, .int .i64 n2, .string s2, .int .i64 x2, .int .i64 y2] 25)) (w.heap.size + 1 + 1) (vcs k2 n2 s2 x2 y2) := (Blk.made ((w.alloc (.cells #[.int .i64 k0, .int .i64 n0, .string s0, .int .i64 x0, .int .i64 y0] 25)).alloc (.cells #[.int .i64 k1, .int .i64 n1, .string s1, .int .i64 x1, .int .i64 y1] 25)) 25 (vcs k2 n2 s2 x2 y2) (by simp [World.size_alloc]))
  have D0_1 := Lib.hid D0_0; clear D0_0
  have D1_1 := Lib.hid D1_0; clear D1_0
  have D2_1 := Lib.hid D2_0; clear D2_0
  generalize ((w.alloc (.cells #[.int .i64 k0, .int .i64 n0, .string s0, .int .i64 x0, .int .i64 y0] 25)).alloc (.cells #[.int .i64 k1, .int .i64 n1, .string s1, .int .i64 x1, .int .i64 y1] 25)).alloc (.cells #[.int .i64 k2, .int .i64 n2, .string s2, .int .i64 x2, .int .i64 y2] 25) = v at *
  refine (awake_any _ HT_0.out).mono ?_
  rintro e u2 ⟨rfl, hb⟩
  have D0_2 := Lib.hid (D0_1.out.next hb)
  have D1_2 := Lib.hid (D1_1.out.next hb)
  have D2_2 := Lib.hid (D2_1.out.next hb)
  have HT_2 := Lib.hid (HT_0.out.next hb)
  have HB_2 := Lib.hid (Below.next HB_0.out hb)
  clear hb D0_1 D1_1 D2_1 HT_0 HB_0
  have cD00 := D0_2.out.v0; have cD01 := D0_2.out.v1; have cD02 := D0_2.out.v2; have cD03 := D0_2.out.v3; have cD04 := D0_2.out.v4
  go_wp2_with (fail)
  clear cD00 cD01 cD02 cD03 cD04
  refine (HR0.out _).mono ?_
  rintro e u3 ⟨rfl, hb⟩
  have D0_3 := Lib.hid (D0_2.out.next hb)
  have D1_3 := Lib.hid (D1_2.out.next hb)
  have D2_3 := Lib.hid (D2_2.out.next hb)
  have HT_3 := Lib.hid (HT_2.out.next hb)
  have HB_3 := Lib.hid (Below.next HB_2.out hb)
  clear hb D0_2 D1_2 D2_2 HT_2 HB_2
  have cD10 := D1_3.out.v0; have cD11 := D1_3.out.v1; have cD12 := D1_3.out.v2; have cD13 := D1_3.out.v3; have cD14 := D1_3.out.v4
  go_wp2_with (fail)
  clear cD10 cD11 cD12 cD13 cD14
  refine (HR1.out _).mono ?_
  rintro e u4 ⟨rfl, hb⟩
  have D0_4 := Lib.hid (D0_3.out.next hb)
  have D1_4 := Lib.hid (D1_3.out.next hb)
  have D2_4 := Lib.hid (D2_3.out.next hb)
  have HT_4 := Lib.hid (HT_3.out.next hb)
  have HB_4 := Lib.hid (Below.next HB_3.out hb)
  clear hb D0_3 D1_3 D2_3 HT_3 HB_3
  have cD20 := D2_4.out.v0; have cD21 := D2_4.out.v1; have cD22 := D2_4.out.v2; have cD23 := D2_4.out.v3; have cD24 := D2_4.out.v4
  go_wp2_with (fail)
  clear cD20 cD21 cD22 cD23 cD24
  refine (HR2.out _).mono ?_
  rintro e u5 ⟨rfl, hb⟩
  have D0_5 := Lib.hid (D0_4.out.next hb)
  have D1_5 := Lib.hid (D1_4.out.next hb)
  have D2_5 := Lib.hid (D2_4.out.next hb)
  have HT_5 := Lib.hid (HT_4.out.next hb)
  have HB_5 := Lib.hid (Below.next HB_4.out hb)
  clear hb D0_4 D1_4 D2_4 HT_4 HB_4
  go_wp2_with (fail)
  have qD00 := fun r : Over u5 => (D0_5.out.over r).v0
  have qD01 := fun r : Over u5 => (D0_5.out.over r).v1
  have qD02 := fun r : Over u5 => (D0_5.out.over r).v2
  have qD03 := fun r : Over u5 => (D0_5.out.over r).v3
  have qD04 := fun r : Over u5 => (D0_5.out.over r).v4
  have qD10 := fun r : Over u5 => (D1_5.out.over r).v0
  have qD11 := fun r : Over u5 => (D1_5.out.over r).v1
  have qD12 := fun r : Over u5 => (D1_5.out.over r).v2
  have qD13 := fun r : Over u5 => (D1_5.out.over r).v3
  have qD14 := fun r : Over u5 => (D1_5.out.over r).v4
  have qD20 := fun r : Over u5 => (D2_5.out.over r).v0
  have qD21 := fun r : Over u5 => (D2_5.out.over r).v1
  have qD22 := fun r : Over u5 => (D2_5.out.over r).v2
  have qD23 := fun r : Over u5 => (D2_5.out.over r).v3
  have qD24 := fun r : Over u5 => (D2_5.out.over r).v4
  refine wp_over (by kernel_rfl) (by kernel_rfl) ?_
  repeat (go_big_quiet_step (first | fail | with_reducible exact over_gives _ (HO01.out _) | with_reducible exact over_gives _ (HO12.out _)))
  refine wpQuiet_nil ?_
  rintro u6 ⟨⟨u6, hb⟩, rfl⟩
  clear qD00 qD01 qD02 qD03 qD04 qD10 qD11 qD12 qD13 qD14 qD20 qD21 qD22 qD23 qD24
  have D0_6 := Lib.hid (D0_5.out.next hb)
  have D1_6 := Lib.hid (D1_5.out.next hb)
  have D2_6 := Lib.hid (D2_5.out.next hb)
  have HT_6 := Lib.hid (HT_5.out.next hb)
  have HB_6 := Lib.hid (Below.next HB_5.out hb)
  clear hb D0_5 D1_5 D2_5 HT_5 HB_5
  have cD00 := D0_6.out.v0; have cD01 := D0_6.out.v1; have cD02 := D0_6.out.v2; have cD03 := D0_6.out.v3; have cD04 := D0_6.out.v4; have cD10 := D1_6.out.v0; have cD11 := D1_6.out.v1; have cD12 := D1_6.out.v2; have cD13 := D1_6.out.v3; have cD14 := D1_6.out.v4
  go_wp2_with (fail)
  clear cD00 cD01 cD02 cD03 cD04 cD10 cD11 cD12 cD13 cD14
  refine (HO10.out _).mono ?_
  rintro e u7 ⟨rfl, hb⟩
  have D0_7 := Lib.hid (D0_6.out.next hb)
  have D1_7 := Lib.hid (D1_6.out.next hb)
  have D2_7 := Lib.hid (D2_6.out.next hb)
  have HT_7 := Lib.hid (HT_6.out.next hb)
  have HB_7 := Lib.hid (Below.next HB_6.out hb)
  clear hb D0_6 D1_6 D2_6 HT_6 HB_6
  have cD00 := D0_7.out.v0; have cD01 := D0_7.out.v1; have cD02 := D0_7.out.v2; have cD03 := D0_7.out.v3; have cD04 := D0_7.out.v4; have cD10 := D1_7.out.v0; have cD11 := D1_7.out.v1; have cD12 := D1_7.out.v2; have cD13 := D1_7.out.v3; have cD14 := D1_7.out.v4; have cD20 := D2_7.out.v0; have cD21 := D2_7.out.v1; have cD22 := D2_7.out.v2; have cD23 := D2_7.out.v3; have cD24 := D2_7.out.v4
  go_wp2_with (fail)
  clear cD00 cD01 cD02 cD03 cD04 cD10 cD11 cD12 cD13 cD14 cD20 cD21 cD22 cD23 cD24
  refine (HO02.out _).mono ?_
  rintro e u8 ⟨rfl, hb⟩
  have D0_8 := Lib.hid (D0_7.out.next hb)
  have D1_8 := Lib.hid (D1_7.out.next hb)
  have D2_8 := Lib.hid (D2_7.out.next hb)
  have HT_8 := Lib.hid (HT_7.out.next hb)
  have HB_8 := Lib.hid (Below.next HB_7.out hb)
  clear hb D0_7 D1_7 D2_7 HT_7 HB_7
  go_wp2_with (fail)
  go_ret
  exact ⟨rfl, HB_8.out⟩
set_option maxHeartbeats 4000000 in
theorem core_0t (k0 n0 x0 y0 k1 n1 x1 y1 k2 n2 x2 y2 : Int) (s0 s1 s2 : ByteArray) (w : World) (hT : Tab w) (h0 : rt ⟨k0, n0, s0.data.toList, x0, y0⟩ = true) (h1 : rt ⟨k1, n1, s1.data.toList, x1, y1⟩ = true) (h2 : rt ⟨k2, n2, s2.data.toList, x2, y2⟩ = true) {q t : Int} (hq : -1 ≤ q ∧ q ≤ 0) (ht : -1 ≤ t ∧ t ≤ 0)
    (e01 : ord ⟨k0, n0, s0.data.toList, x0, y0⟩ ⟨k1, n1, s1.data.toList, x1, y1⟩ = 0) (e10 : ord ⟨k1, n1, s1.data.toList, x1, y1⟩ ⟨k0, n0, s0.data.toList, x0, y0⟩ = 0) (e12 : ord ⟨k1, n1, s1.data.toList, x1, y1⟩ ⟨k2, n2, s2.data.toList, x2, y2⟩ = q) (e02 : ord ⟨k0, n0, s0.data.toList, x0, y0⟩ ⟨k2, n2, s2.data.toList, x2, y2⟩ = t) (ez : ve ⟨k0, n0, s0.data.toList, x0, y0⟩ ⟨k1, n1, s1.data.toList, x1, y1⟩ = true) : Calls Tryd.prog 4 #[.agg #[.int .i64 k0, .int .i64 n0, .string s0, .int .i64 x0, .int .i64 y0], .agg #[.int .i64 k1, .int .i64 n1, .string s1, .int .i64 x1, .int .i64 y1], .agg #[.int .i64 k2, .int .i64 n2, .string s2, .int .i64 x2, .int .i64 y2]] w (Gives (.bool true) w) := by
  have HR0 := Lib.hid (right_val k0 n0 x0 y0 s0)
  rw [h0] at HR0; clear h0
  have HR1 := Lib.hid (right_val k1 n1 x1 y1 s1)
  rw [h1] at HR1; clear h1
  have HR2 := Lib.hid (right_val k2 n2 x2 y2 s2)
  rw [h2] at HR2; clear h2
  have HO01 := Lib.hid (order_val k0 n0 x0 y0 k1 n1 x1 y1 s0 s1); rw [e01] at HO01; clear e01
  have HO10 := Lib.hid (order_val k1 n1 x1 y1 k0 n0 x0 y0 s1 s0); rw [e10] at HO10; clear e10
  have HO12 := Lib.hid (order_val k1 n1 x1 y1 k2 n2 x2 y2 s1 s2); rw [e12] at HO12; clear e12
  have HO02 := Lib.hid (order_val k0 n0 x0 y0 k2 n2 x2 y2 s0 s2); rw [e02] at HO02; clear e02
  have hE := eql_val k0 n0 x0 y0 k1 n1 x1 y1 s0 s1; rw [ez] at hE; clear ez
  obtain ⟨q1, q2⟩ := hq
  obtain ⟨t1, t2⟩ := ht
  go_enter Tryd.func4, Tryd.ntmps4
  go_wp2_with (fail)
  have kb := box3 w (.cells #[.int .i64 k0, .int .i64 n0, .string s0, .int .i64 x0, .int .i64 y0] 25) (.cells #[.int .i64 k1, .int .i64 n1, .string s1, .int .i64 x1, .int .i64 y1] 25) (.cells #[.int .i64 k2, .int .i64 n2, .string s2, .int .i64 x2, .int .i64 y2] 25)
  have HT_0 := Lib.hid (hT.next kb)
  have HB_0 := Lib.hid kb
  clear kb
  have D0_0 : Blk (((w.alloc (.cells #[.int .i64 k0, .int .i64 n0, .string s0, .int .i64 x0, .int .i64 y0] 25)).alloc (.cells #[.int .i64 k1, .int .i64 n1, .string s1, .int .i64 x1, .int .i64 y1] 25)).alloc (.cells #[.int .i64 k2, .int .i64 n2, .string s2, .int .i64 x2, .int .i64 y2] 25)) (w.heap.size) (vcs k0 n0 s0 x0 y0) := (((Blk.made w 25 (vcs k0 n0 s0 x0 y0) rfl).old (.cells #[.int .i64 k1, .int .i64 n1, .string s1, .int .i64 x1, .int .i64 y1] 25)).old (.cells #[.int .i64 k2, .int .i64 n2, .string s2, .int .i64 x2, .int .i64 y2] 25))
  have D1_0 : Blk (((w.alloc (.cells #[.int .i64 k0, .int .i64 n0, .string s0, .int .i64 x0, .int .i64 y0] 25)).alloc (.cells #[.int .i64 k1, .int .i64 n1, .string s1, .int .i64 x1, .int .i64 y1] 25)).alloc (.cells #[.int .i64 k2, .int .i64 n2, .string s2, .int .i64 x2, .int .i64 y2] 25)) (w.heap.size + 1) (vcs k1 n1 s1 x1 y1) := ((Blk.made (w.alloc (.cells #[.int .i64 k0, .int .i64 n0, .string s0, .int .i64 x0, .int .i64 y0] 25)) 25 (vcs k1 n1 s1 x1 y1) (World.size_alloc _ _)).old (.cells #[.int .i64 k2, .int .i64 n2, .string s2, .int .i64 x2, .int .i64 y2] 25))
  have D2_0 : Blk (((w.alloc (.cells #[.int .i64 k0, .int .i64 n0, .string s0, .int .i64 x0, .int .i64 y0] 25)).alloc (.cells #[.int .i64 k1, .int .i64 n1, .string s1, .int .i64 x1, .int .i64 y1] 25)).alloc (.cells #[.int .i64 k2, .int .i64 n2, .string s2, .int .i64 x2, .int .i64 y2] 25)) (w.heap.size + 1 + 1) (vcs k2 n2 s2 x2 y2) := (Blk.made ((w.alloc (.cells #[.int .i64 k0, .int .i64 n0, .string s0, .int .i64 x0, .int .i64 y0] 25)).alloc (.cells #[.int .i64 k1, .int .i64 n1, .string s1, .int .i64 x1, .int .i64 y1] 25)) 25 (vcs k2 n2 s2 x2 y2) (by simp [World.size_alloc]))
  have D0_1 := Lib.hid D0_0; clear D0_0
  have D1_1 := Lib.hid D1_0; clear D1_0
  have D2_1 := Lib.hid D2_0; clear D2_0
  generalize ((w.alloc (.cells #[.int .i64 k0, .int .i64 n0, .string s0, .int .i64 x0, .int .i64 y0] 25)).alloc (.cells #[.int .i64 k1, .int .i64 n1, .string s1, .int .i64 x1, .int .i64 y1] 25)).alloc (.cells #[.int .i64 k2, .int .i64 n2, .string s2, .int .i64 x2, .int .i64 y2] 25) = v at *
  refine (awake_any _ HT_0.out).mono ?_
  rintro e u2 ⟨rfl, hb⟩
  have D0_2 := Lib.hid (D0_1.out.next hb)
  have D1_2 := Lib.hid (D1_1.out.next hb)
  have D2_2 := Lib.hid (D2_1.out.next hb)
  have HT_2 := Lib.hid (HT_0.out.next hb)
  have HB_2 := Lib.hid (Below.next HB_0.out hb)
  clear hb D0_1 D1_1 D2_1 HT_0 HB_0
  have cD00 := D0_2.out.v0; have cD01 := D0_2.out.v1; have cD02 := D0_2.out.v2; have cD03 := D0_2.out.v3; have cD04 := D0_2.out.v4
  go_wp2_with (fail)
  clear cD00 cD01 cD02 cD03 cD04
  refine (HR0.out _).mono ?_
  rintro e u3 ⟨rfl, hb⟩
  have D0_3 := Lib.hid (D0_2.out.next hb)
  have D1_3 := Lib.hid (D1_2.out.next hb)
  have D2_3 := Lib.hid (D2_2.out.next hb)
  have HT_3 := Lib.hid (HT_2.out.next hb)
  have HB_3 := Lib.hid (Below.next HB_2.out hb)
  clear hb D0_2 D1_2 D2_2 HT_2 HB_2
  have cD10 := D1_3.out.v0; have cD11 := D1_3.out.v1; have cD12 := D1_3.out.v2; have cD13 := D1_3.out.v3; have cD14 := D1_3.out.v4
  go_wp2_with (fail)
  clear cD10 cD11 cD12 cD13 cD14
  refine (HR1.out _).mono ?_
  rintro e u4 ⟨rfl, hb⟩
  have D0_4 := Lib.hid (D0_3.out.next hb)
  have D1_4 := Lib.hid (D1_3.out.next hb)
  have D2_4 := Lib.hid (D2_3.out.next hb)
  have HT_4 := Lib.hid (HT_3.out.next hb)
  have HB_4 := Lib.hid (Below.next HB_3.out hb)
  clear hb D0_3 D1_3 D2_3 HT_3 HB_3
  have cD20 := D2_4.out.v0; have cD21 := D2_4.out.v1; have cD22 := D2_4.out.v2; have cD23 := D2_4.out.v3; have cD24 := D2_4.out.v4
  go_wp2_with (fail)
  clear cD20 cD21 cD22 cD23 cD24
  refine (HR2.out _).mono ?_
  rintro e u5 ⟨rfl, hb⟩
  have D0_5 := Lib.hid (D0_4.out.next hb)
  have D1_5 := Lib.hid (D1_4.out.next hb)
  have D2_5 := Lib.hid (D2_4.out.next hb)
  have HT_5 := Lib.hid (HT_4.out.next hb)
  have HB_5 := Lib.hid (Below.next HB_4.out hb)
  clear hb D0_4 D1_4 D2_4 HT_4 HB_4
  go_wp2_with (fail)
  have qD00 := fun r : Over u5 => (D0_5.out.over r).v0
  have qD01 := fun r : Over u5 => (D0_5.out.over r).v1
  have qD02 := fun r : Over u5 => (D0_5.out.over r).v2
  have qD03 := fun r : Over u5 => (D0_5.out.over r).v3
  have qD04 := fun r : Over u5 => (D0_5.out.over r).v4
  have qD10 := fun r : Over u5 => (D1_5.out.over r).v0
  have qD11 := fun r : Over u5 => (D1_5.out.over r).v1
  have qD12 := fun r : Over u5 => (D1_5.out.over r).v2
  have qD13 := fun r : Over u5 => (D1_5.out.over r).v3
  have qD14 := fun r : Over u5 => (D1_5.out.over r).v4
  have qD20 := fun r : Over u5 => (D2_5.out.over r).v0
  have qD21 := fun r : Over u5 => (D2_5.out.over r).v1
  have qD22 := fun r : Over u5 => (D2_5.out.over r).v2
  have qD23 := fun r : Over u5 => (D2_5.out.over r).v3
  have qD24 := fun r : Over u5 => (D2_5.out.over r).v4
  refine wp_over (by kernel_rfl) (by kernel_rfl) ?_
  repeat (go_big_quiet_step (first | fail | with_reducible exact over_gives _ (HO01.out _) | with_reducible exact over_gives _ (HO12.out _)))
  refine wpQuiet_nil ?_
  rintro u6 ⟨⟨u6, hb⟩, rfl⟩
  clear qD00 qD01 qD02 qD03 qD04 qD10 qD11 qD12 qD13 qD14 qD20 qD21 qD22 qD23 qD24
  have D0_6 := Lib.hid (D0_5.out.next hb)
  have D1_6 := Lib.hid (D1_5.out.next hb)
  have D2_6 := Lib.hid (D2_5.out.next hb)
  have HT_6 := Lib.hid (HT_5.out.next hb)
  have HB_6 := Lib.hid (Below.next HB_5.out hb)
  clear hb D0_5 D1_5 D2_5 HT_5 HB_5
  have cD00 := D0_6.out.v0; have cD01 := D0_6.out.v1; have cD02 := D0_6.out.v2; have cD03 := D0_6.out.v3; have cD04 := D0_6.out.v4; have cD10 := D1_6.out.v0; have cD11 := D1_6.out.v1; have cD12 := D1_6.out.v2; have cD13 := D1_6.out.v3; have cD14 := D1_6.out.v4
  go_wp2_with (fail)
  clear cD00 cD01 cD02 cD03 cD04 cD10 cD11 cD12 cD13 cD14
  refine (HO10.out _).mono ?_
  rintro e u7 ⟨rfl, hb⟩
  have D0_7 := Lib.hid (D0_6.out.next hb)
  have D1_7 := Lib.hid (D1_6.out.next hb)
  have D2_7 := Lib.hid (D2_6.out.next hb)
  have HT_7 := Lib.hid (HT_6.out.next hb)
  have HB_7 := Lib.hid (Below.next HB_6.out hb)
  clear hb D0_6 D1_6 D2_6 HT_6 HB_6
  have cD00 := D0_7.out.v0; have cD01 := D0_7.out.v1; have cD02 := D0_7.out.v2; have cD03 := D0_7.out.v3; have cD04 := D0_7.out.v4; have cD10 := D1_7.out.v0; have cD11 := D1_7.out.v1; have cD12 := D1_7.out.v2; have cD13 := D1_7.out.v3; have cD14 := D1_7.out.v4; have cD20 := D2_7.out.v0; have cD21 := D2_7.out.v1; have cD22 := D2_7.out.v2; have cD23 := D2_7.out.v3; have cD24 := D2_7.out.v4
  go_wp2_with (fail)
  clear cD00 cD01 cD02 cD03 cD04 cD10 cD11 cD12 cD13 cD14 cD20 cD21 cD22 cD23 cD24
  refine (HO02.out _).mono ?_
  rintro e u8 ⟨rfl, hb⟩
  have D0_8 := Lib.hid (D0_7.out.next hb)
  have D1_8 := Lib.hid (D1_7.out.next hb)
  have D2_8 := Lib.hid (D2_7.out.next hb)
  have HT_8 := Lib.hid (HT_7.out.next hb)
  have HB_8 := Lib.hid (Below.next HB_7.out hb)
  clear hb D0_7 D1_7 D2_7 HT_7 HB_7
  have cD00 := D0_8.out.v0; have cD01 := D0_8.out.v1; have cD02 := D0_8.out.v2; have cD03 := D0_8.out.v3; have cD04 := D0_8.out.v4; have cD10 := D1_8.out.v0; have cD11 := D1_8.out.v1; have cD12 := D1_8.out.v2; have cD13 := D1_8.out.v3; have cD14 := D1_8.out.v4; have cD20 := D2_8.out.v0; have cD21 := D2_8.out.v1; have cD22 := D2_8.out.v2; have cD23 := D2_8.out.v3; have cD24 := D2_8.out.v4
  go_wp2_with (fail)
  clear cD00 cD01 cD02 cD03 cD04 cD10 cD11 cD12 cD13 cD14 cD20 cD21 cD22 cD23 cD24
  refine (HO02.out _).mono ?_
  rintro e u9 ⟨rfl, hb⟩
  have D0_9 := Lib.hid (D0_8.out.next hb)
  have D1_9 := Lib.hid (D1_8.out.next hb)
  have D2_9 := Lib.hid (D2_8.out.next hb)
  have HT_9 := Lib.hid (HT_8.out.next hb)
  have HB_9 := Lib.hid (Below.next HB_8.out hb)
  clear hb D0_8 D1_8 D2_8 HT_8 HB_8
  go_wp2_with (fail)
  go_ret
  exact ⟨rfl, HB_9.out⟩
set_option maxHeartbeats 4000000 in
theorem core_nq (k0 n0 x0 y0 k1 n1 x1 y1 k2 n2 x2 y2 : Int) (s0 s1 s2 : ByteArray) (w : World) (hT : Tab w) (h0 : rt ⟨k0, n0, s0.data.toList, x0, y0⟩ = true) (h1 : rt ⟨k1, n1, s1.data.toList, x1, y1⟩ = true) (h2 : rt ⟨k2, n2, s2.data.toList, x2, y2⟩ = true) {q t : Int} (hq : 0 < q ∧ q ≤ 1) (ht : -1 ≤ t ∧ t ≤ 1)
    (e01 : ord ⟨k0, n0, s0.data.toList, x0, y0⟩ ⟨k1, n1, s1.data.toList, x1, y1⟩ = (-1)) (e10 : ord ⟨k1, n1, s1.data.toList, x1, y1⟩ ⟨k0, n0, s0.data.toList, x0, y0⟩ = 1) (e12 : ord ⟨k1, n1, s1.data.toList, x1, y1⟩ ⟨k2, n2, s2.data.toList, x2, y2⟩ = q) (e02 : ord ⟨k0, n0, s0.data.toList, x0, y0⟩ ⟨k2, n2, s2.data.toList, x2, y2⟩ = t) (ez : ve ⟨k0, n0, s0.data.toList, x0, y0⟩ ⟨k1, n1, s1.data.toList, x1, y1⟩ = false) : Calls Tryd.prog 4 #[.agg #[.int .i64 k0, .int .i64 n0, .string s0, .int .i64 x0, .int .i64 y0], .agg #[.int .i64 k1, .int .i64 n1, .string s1, .int .i64 x1, .int .i64 y1], .agg #[.int .i64 k2, .int .i64 n2, .string s2, .int .i64 x2, .int .i64 y2]] w (Gives (.bool true) w) := by
  have HR0 := Lib.hid (right_val k0 n0 x0 y0 s0)
  rw [h0] at HR0; clear h0
  have HR1 := Lib.hid (right_val k1 n1 x1 y1 s1)
  rw [h1] at HR1; clear h1
  have HR2 := Lib.hid (right_val k2 n2 x2 y2 s2)
  rw [h2] at HR2; clear h2
  have HO01 := Lib.hid (order_val k0 n0 x0 y0 k1 n1 x1 y1 s0 s1); rw [e01] at HO01; clear e01
  have HO10 := Lib.hid (order_val k1 n1 x1 y1 k0 n0 x0 y0 s1 s0); rw [e10] at HO10; clear e10
  have HO12 := Lib.hid (order_val k1 n1 x1 y1 k2 n2 x2 y2 s1 s2); rw [e12] at HO12; clear e12
  have HO02 := Lib.hid (order_val k0 n0 x0 y0 k2 n2 x2 y2 s0 s2); rw [e02] at HO02; clear e02
  have hE := eql_val k0 n0 x0 y0 k1 n1 x1 y1 s0 s1; rw [ez] at hE; clear ez
  obtain ⟨q1, q2⟩ := hq
  obtain ⟨t1, t2⟩ := ht
  go_enter Tryd.func4, Tryd.ntmps4
  go_wp2_with (fail)
  have kb := box3 w (.cells #[.int .i64 k0, .int .i64 n0, .string s0, .int .i64 x0, .int .i64 y0] 25) (.cells #[.int .i64 k1, .int .i64 n1, .string s1, .int .i64 x1, .int .i64 y1] 25) (.cells #[.int .i64 k2, .int .i64 n2, .string s2, .int .i64 x2, .int .i64 y2] 25)
  have HT_0 := Lib.hid (hT.next kb)
  have HB_0 := Lib.hid kb
  clear kb
  have D0_0 : Blk (((w.alloc (.cells #[.int .i64 k0, .int .i64 n0, .string s0, .int .i64 x0, .int .i64 y0] 25)).alloc (.cells #[.int .i64 k1, .int .i64 n1, .string s1, .int .i64 x1, .int .i64 y1] 25)).alloc (.cells #[.int .i64 k2, .int .i64 n2, .string s2, .int .i64 x2, .int .i64 y2] 25)) (w.heap.size) (vcs k0 n0 s0 x0 y0) := (((Blk.made w 25 (vcs k0 n0 s0 x0 y0) rfl).old (.cells #[.int .i64 k1, .int .i64 n1, .string s1, .int .i64 x1, .int .i64 y1] 25)).old (.cells #[.int .i64 k2, .int .i64 n2, .string s2, .int .i64 x2, .int .i64 y2] 25))
  have D1_0 : Blk (((w.alloc (.cells #[.int .i64 k0, .int .i64 n0, .string s0, .int .i64 x0, .int .i64 y0] 25)).alloc (.cells #[.int .i64 k1, .int .i64 n1, .string s1, .int .i64 x1, .int .i64 y1] 25)).alloc (.cells #[.int .i64 k2, .int .i64 n2, .string s2, .int .i64 x2, .int .i64 y2] 25)) (w.heap.size + 1) (vcs k1 n1 s1 x1 y1) := ((Blk.made (w.alloc (.cells #[.int .i64 k0, .int .i64 n0, .string s0, .int .i64 x0, .int .i64 y0] 25)) 25 (vcs k1 n1 s1 x1 y1) (World.size_alloc _ _)).old (.cells #[.int .i64 k2, .int .i64 n2, .string s2, .int .i64 x2, .int .i64 y2] 25))
  have D2_0 : Blk (((w.alloc (.cells #[.int .i64 k0, .int .i64 n0, .string s0, .int .i64 x0, .int .i64 y0] 25)).alloc (.cells #[.int .i64 k1, .int .i64 n1, .string s1, .int .i64 x1, .int .i64 y1] 25)).alloc (.cells #[.int .i64 k2, .int .i64 n2, .string s2, .int .i64 x2, .int .i64 y2] 25)) (w.heap.size + 1 + 1) (vcs k2 n2 s2 x2 y2) := (Blk.made ((w.alloc (.cells #[.int .i64 k0, .int .i64 n0, .string s0, .int .i64 x0, .int .i64 y0] 25)).alloc (.cells #[.int .i64 k1, .int .i64 n1, .string s1, .int .i64 x1, .int .i64 y1] 25)) 25 (vcs k2 n2 s2 x2 y2) (by simp [World.size_alloc]))
  have D0_1 := Lib.hid D0_0; clear D0_0
  have D1_1 := Lib.hid D1_0; clear D1_0
  have D2_1 := Lib.hid D2_0; clear D2_0
  generalize ((w.alloc (.cells #[.int .i64 k0, .int .i64 n0, .string s0, .int .i64 x0, .int .i64 y0] 25)).alloc (.cells #[.int .i64 k1, .int .i64 n1, .string s1, .int .i64 x1, .int .i64 y1] 25)).alloc (.cells #[.int .i64 k2, .int .i64 n2, .string s2, .int .i64 x2, .int .i64 y2] 25) = v at *
  refine (awake_any _ HT_0.out).mono ?_
  rintro e u2 ⟨rfl, hb⟩
  have D0_2 := Lib.hid (D0_1.out.next hb)
  have D1_2 := Lib.hid (D1_1.out.next hb)
  have D2_2 := Lib.hid (D2_1.out.next hb)
  have HT_2 := Lib.hid (HT_0.out.next hb)
  have HB_2 := Lib.hid (Below.next HB_0.out hb)
  clear hb D0_1 D1_1 D2_1 HT_0 HB_0
  have cD00 := D0_2.out.v0; have cD01 := D0_2.out.v1; have cD02 := D0_2.out.v2; have cD03 := D0_2.out.v3; have cD04 := D0_2.out.v4
  go_wp2_with (fail)
  clear cD00 cD01 cD02 cD03 cD04
  refine (HR0.out _).mono ?_
  rintro e u3 ⟨rfl, hb⟩
  have D0_3 := Lib.hid (D0_2.out.next hb)
  have D1_3 := Lib.hid (D1_2.out.next hb)
  have D2_3 := Lib.hid (D2_2.out.next hb)
  have HT_3 := Lib.hid (HT_2.out.next hb)
  have HB_3 := Lib.hid (Below.next HB_2.out hb)
  clear hb D0_2 D1_2 D2_2 HT_2 HB_2
  have cD10 := D1_3.out.v0; have cD11 := D1_3.out.v1; have cD12 := D1_3.out.v2; have cD13 := D1_3.out.v3; have cD14 := D1_3.out.v4
  go_wp2_with (fail)
  clear cD10 cD11 cD12 cD13 cD14
  refine (HR1.out _).mono ?_
  rintro e u4 ⟨rfl, hb⟩
  have D0_4 := Lib.hid (D0_3.out.next hb)
  have D1_4 := Lib.hid (D1_3.out.next hb)
  have D2_4 := Lib.hid (D2_3.out.next hb)
  have HT_4 := Lib.hid (HT_3.out.next hb)
  have HB_4 := Lib.hid (Below.next HB_3.out hb)
  clear hb D0_3 D1_3 D2_3 HT_3 HB_3
  have cD20 := D2_4.out.v0; have cD21 := D2_4.out.v1; have cD22 := D2_4.out.v2; have cD23 := D2_4.out.v3; have cD24 := D2_4.out.v4
  go_wp2_with (fail)
  clear cD20 cD21 cD22 cD23 cD24
  refine (HR2.out _).mono ?_
  rintro e u5 ⟨rfl, hb⟩
  have D0_5 := Lib.hid (D0_4.out.next hb)
  have D1_5 := Lib.hid (D1_4.out.next hb)
  have D2_5 := Lib.hid (D2_4.out.next hb)
  have HT_5 := Lib.hid (HT_4.out.next hb)
  have HB_5 := Lib.hid (Below.next HB_4.out hb)
  clear hb D0_4 D1_4 D2_4 HT_4 HB_4
  go_wp2_with (fail)
  have qD00 := fun r : Over u5 => (D0_5.out.over r).v0
  have qD01 := fun r : Over u5 => (D0_5.out.over r).v1
  have qD02 := fun r : Over u5 => (D0_5.out.over r).v2
  have qD03 := fun r : Over u5 => (D0_5.out.over r).v3
  have qD04 := fun r : Over u5 => (D0_5.out.over r).v4
  have qD10 := fun r : Over u5 => (D1_5.out.over r).v0
  have qD11 := fun r : Over u5 => (D1_5.out.over r).v1
  have qD12 := fun r : Over u5 => (D1_5.out.over r).v2
  have qD13 := fun r : Over u5 => (D1_5.out.over r).v3
  have qD14 := fun r : Over u5 => (D1_5.out.over r).v4
  have qD20 := fun r : Over u5 => (D2_5.out.over r).v0
  have qD21 := fun r : Over u5 => (D2_5.out.over r).v1
  have qD22 := fun r : Over u5 => (D2_5.out.over r).v2
  have qD23 := fun r : Over u5 => (D2_5.out.over r).v3
  have qD24 := fun r : Over u5 => (D2_5.out.over r).v4
  refine wp_over (by kernel_rfl) (by kernel_rfl) ?_
  repeat (go_big_quiet_step (first | fail | with_reducible exact over_gives _ (HO01.out _) | with_reducible exact over_gives _ (HO12.out _)))
  refine wpQuiet_nil ?_
  rintro u6 ⟨⟨u6, hb⟩, rfl⟩
  clear qD00 qD01 qD02 qD03 qD04 qD10 qD11 qD12 qD13 qD14 qD20 qD21 qD22 qD23 qD24
  have D0_6 := Lib.hid (D0_5.out.next hb)
  have D1_6 := Lib.hid (D1_5.out.next hb)
  have D2_6 := Lib.hid (D2_5.out.next hb)
  have HT_6 := Lib.hid (HT_5.out.next hb)
  have HB_6 := Lib.hid (Below.next HB_5.out hb)
  clear hb D0_5 D1_5 D2_5 HT_5 HB_5
  have cD00 := D0_6.out.v0; have cD01 := D0_6.out.v1; have cD02 := D0_6.out.v2; have cD03 := D0_6.out.v3; have cD04 := D0_6.out.v4; have cD10 := D1_6.out.v0; have cD11 := D1_6.out.v1; have cD12 := D1_6.out.v2; have cD13 := D1_6.out.v3; have cD14 := D1_6.out.v4
  go_wp2_with (fail)
  clear cD00 cD01 cD02 cD03 cD04 cD10 cD11 cD12 cD13 cD14
  refine (HO10.out _).mono ?_
  rintro e u7 ⟨rfl, hb⟩
  have D0_7 := Lib.hid (D0_6.out.next hb)
  have D1_7 := Lib.hid (D1_6.out.next hb)
  have D2_7 := Lib.hid (D2_6.out.next hb)
  have HT_7 := Lib.hid (HT_6.out.next hb)
  have HB_7 := Lib.hid (Below.next HB_6.out hb)
  clear hb D0_6 D1_6 D2_6 HT_6 HB_6
  have cD00 := D0_7.out.v0; have cD01 := D0_7.out.v1; have cD02 := D0_7.out.v2; have cD03 := D0_7.out.v3; have cD04 := D0_7.out.v4; have cD10 := D1_7.out.v0; have cD11 := D1_7.out.v1; have cD12 := D1_7.out.v2; have cD13 := D1_7.out.v3; have cD14 := D1_7.out.v4; have cD20 := D2_7.out.v0; have cD21 := D2_7.out.v1; have cD22 := D2_7.out.v2; have cD23 := D2_7.out.v3; have cD24 := D2_7.out.v4
  go_wp2_with (fail)
  clear cD00 cD01 cD02 cD03 cD04 cD10 cD11 cD12 cD13 cD14 cD20 cD21 cD22 cD23 cD24
  refine (HO02.out _).mono ?_
  rintro e u8 ⟨rfl, hb⟩
  have D0_8 := Lib.hid (D0_7.out.next hb)
  have D1_8 := Lib.hid (D1_7.out.next hb)
  have D2_8 := Lib.hid (D2_7.out.next hb)
  have HT_8 := Lib.hid (HT_7.out.next hb)
  have HB_8 := Lib.hid (Below.next HB_7.out hb)
  clear hb D0_7 D1_7 D2_7 HT_7 HB_7
  go_wp2_with (fail)
  go_ret
  exact ⟨rfl, HB_8.out⟩
set_option maxHeartbeats 4000000 in
theorem core_nt (k0 n0 x0 y0 k1 n1 x1 y1 k2 n2 x2 y2 : Int) (s0 s1 s2 : ByteArray) (w : World) (hT : Tab w) (h0 : rt ⟨k0, n0, s0.data.toList, x0, y0⟩ = true) (h1 : rt ⟨k1, n1, s1.data.toList, x1, y1⟩ = true) (h2 : rt ⟨k2, n2, s2.data.toList, x2, y2⟩ = true) {q t : Int} (hq : -1 ≤ q ∧ q ≤ 0) (ht : -1 ≤ t ∧ t ≤ 0)
    (e01 : ord ⟨k0, n0, s0.data.toList, x0, y0⟩ ⟨k1, n1, s1.data.toList, x1, y1⟩ = (-1)) (e10 : ord ⟨k1, n1, s1.data.toList, x1, y1⟩ ⟨k0, n0, s0.data.toList, x0, y0⟩ = 1) (e12 : ord ⟨k1, n1, s1.data.toList, x1, y1⟩ ⟨k2, n2, s2.data.toList, x2, y2⟩ = q) (e02 : ord ⟨k0, n0, s0.data.toList, x0, y0⟩ ⟨k2, n2, s2.data.toList, x2, y2⟩ = t) (ez : ve ⟨k0, n0, s0.data.toList, x0, y0⟩ ⟨k1, n1, s1.data.toList, x1, y1⟩ = false) : Calls Tryd.prog 4 #[.agg #[.int .i64 k0, .int .i64 n0, .string s0, .int .i64 x0, .int .i64 y0], .agg #[.int .i64 k1, .int .i64 n1, .string s1, .int .i64 x1, .int .i64 y1], .agg #[.int .i64 k2, .int .i64 n2, .string s2, .int .i64 x2, .int .i64 y2]] w (Gives (.bool true) w) := by
  have HR0 := Lib.hid (right_val k0 n0 x0 y0 s0)
  rw [h0] at HR0; clear h0
  have HR1 := Lib.hid (right_val k1 n1 x1 y1 s1)
  rw [h1] at HR1; clear h1
  have HR2 := Lib.hid (right_val k2 n2 x2 y2 s2)
  rw [h2] at HR2; clear h2
  have HO01 := Lib.hid (order_val k0 n0 x0 y0 k1 n1 x1 y1 s0 s1); rw [e01] at HO01; clear e01
  have HO10 := Lib.hid (order_val k1 n1 x1 y1 k0 n0 x0 y0 s1 s0); rw [e10] at HO10; clear e10
  have HO12 := Lib.hid (order_val k1 n1 x1 y1 k2 n2 x2 y2 s1 s2); rw [e12] at HO12; clear e12
  have HO02 := Lib.hid (order_val k0 n0 x0 y0 k2 n2 x2 y2 s0 s2); rw [e02] at HO02; clear e02
  have hE := eql_val k0 n0 x0 y0 k1 n1 x1 y1 s0 s1; rw [ez] at hE; clear ez
  obtain ⟨q1, q2⟩ := hq
  obtain ⟨t1, t2⟩ := ht
  go_enter Tryd.func4, Tryd.ntmps4
  go_wp2_with (fail)
  have kb := box3 w (.cells #[.int .i64 k0, .int .i64 n0, .string s0, .int .i64 x0, .int .i64 y0] 25) (.cells #[.int .i64 k1, .int .i64 n1, .string s1, .int .i64 x1, .int .i64 y1] 25) (.cells #[.int .i64 k2, .int .i64 n2, .string s2, .int .i64 x2, .int .i64 y2] 25)
  have HT_0 := Lib.hid (hT.next kb)
  have HB_0 := Lib.hid kb
  clear kb
  have D0_0 : Blk (((w.alloc (.cells #[.int .i64 k0, .int .i64 n0, .string s0, .int .i64 x0, .int .i64 y0] 25)).alloc (.cells #[.int .i64 k1, .int .i64 n1, .string s1, .int .i64 x1, .int .i64 y1] 25)).alloc (.cells #[.int .i64 k2, .int .i64 n2, .string s2, .int .i64 x2, .int .i64 y2] 25)) (w.heap.size) (vcs k0 n0 s0 x0 y0) := (((Blk.made w 25 (vcs k0 n0 s0 x0 y0) rfl).old (.cells #[.int .i64 k1, .int .i64 n1, .string s1, .int .i64 x1, .int .i64 y1] 25)).old (.cells #[.int .i64 k2, .int .i64 n2, .string s2, .int .i64 x2, .int .i64 y2] 25))
  have D1_0 : Blk (((w.alloc (.cells #[.int .i64 k0, .int .i64 n0, .string s0, .int .i64 x0, .int .i64 y0] 25)).alloc (.cells #[.int .i64 k1, .int .i64 n1, .string s1, .int .i64 x1, .int .i64 y1] 25)).alloc (.cells #[.int .i64 k2, .int .i64 n2, .string s2, .int .i64 x2, .int .i64 y2] 25)) (w.heap.size + 1) (vcs k1 n1 s1 x1 y1) := ((Blk.made (w.alloc (.cells #[.int .i64 k0, .int .i64 n0, .string s0, .int .i64 x0, .int .i64 y0] 25)) 25 (vcs k1 n1 s1 x1 y1) (World.size_alloc _ _)).old (.cells #[.int .i64 k2, .int .i64 n2, .string s2, .int .i64 x2, .int .i64 y2] 25))
  have D2_0 : Blk (((w.alloc (.cells #[.int .i64 k0, .int .i64 n0, .string s0, .int .i64 x0, .int .i64 y0] 25)).alloc (.cells #[.int .i64 k1, .int .i64 n1, .string s1, .int .i64 x1, .int .i64 y1] 25)).alloc (.cells #[.int .i64 k2, .int .i64 n2, .string s2, .int .i64 x2, .int .i64 y2] 25)) (w.heap.size + 1 + 1) (vcs k2 n2 s2 x2 y2) := (Blk.made ((w.alloc (.cells #[.int .i64 k0, .int .i64 n0, .string s0, .int .i64 x0, .int .i64 y0] 25)).alloc (.cells #[.int .i64 k1, .int .i64 n1, .string s1, .int .i64 x1, .int .i64 y1] 25)) 25 (vcs k2 n2 s2 x2 y2) (by simp [World.size_alloc]))
  have D0_1 := Lib.hid D0_0; clear D0_0
  have D1_1 := Lib.hid D1_0; clear D1_0
  have D2_1 := Lib.hid D2_0; clear D2_0
  generalize ((w.alloc (.cells #[.int .i64 k0, .int .i64 n0, .string s0, .int .i64 x0, .int .i64 y0] 25)).alloc (.cells #[.int .i64 k1, .int .i64 n1, .string s1, .int .i64 x1, .int .i64 y1] 25)).alloc (.cells #[.int .i64 k2, .int .i64 n2, .string s2, .int .i64 x2, .int .i64 y2] 25) = v at *
  refine (awake_any _ HT_0.out).mono ?_
  rintro e u2 ⟨rfl, hb⟩
  have D0_2 := Lib.hid (D0_1.out.next hb)
  have D1_2 := Lib.hid (D1_1.out.next hb)
  have D2_2 := Lib.hid (D2_1.out.next hb)
  have HT_2 := Lib.hid (HT_0.out.next hb)
  have HB_2 := Lib.hid (Below.next HB_0.out hb)
  clear hb D0_1 D1_1 D2_1 HT_0 HB_0
  have cD00 := D0_2.out.v0; have cD01 := D0_2.out.v1; have cD02 := D0_2.out.v2; have cD03 := D0_2.out.v3; have cD04 := D0_2.out.v4
  go_wp2_with (fail)
  clear cD00 cD01 cD02 cD03 cD04
  refine (HR0.out _).mono ?_
  rintro e u3 ⟨rfl, hb⟩
  have D0_3 := Lib.hid (D0_2.out.next hb)
  have D1_3 := Lib.hid (D1_2.out.next hb)
  have D2_3 := Lib.hid (D2_2.out.next hb)
  have HT_3 := Lib.hid (HT_2.out.next hb)
  have HB_3 := Lib.hid (Below.next HB_2.out hb)
  clear hb D0_2 D1_2 D2_2 HT_2 HB_2
  have cD10 := D1_3.out.v0; have cD11 := D1_3.out.v1; have cD12 := D1_3.out.v2; have cD13 := D1_3.out.v3; have cD14 := D1_3.out.v4
  go_wp2_with (fail)
  clear cD10 cD11 cD12 cD13 cD14
  refine (HR1.out _).mono ?_
  rintro e u4 ⟨rfl, hb⟩
  have D0_4 := Lib.hid (D0_3.out.next hb)
  have D1_4 := Lib.hid (D1_3.out.next hb)
  have D2_4 := Lib.hid (D2_3.out.next hb)
  have HT_4 := Lib.hid (HT_3.out.next hb)
  have HB_4 := Lib.hid (Below.next HB_3.out hb)
  clear hb D0_3 D1_3 D2_3 HT_3 HB_3
  have cD20 := D2_4.out.v0; have cD21 := D2_4.out.v1; have cD22 := D2_4.out.v2; have cD23 := D2_4.out.v3; have cD24 := D2_4.out.v4
  go_wp2_with (fail)
  clear cD20 cD21 cD22 cD23 cD24
  refine (HR2.out _).mono ?_
  rintro e u5 ⟨rfl, hb⟩
  have D0_5 := Lib.hid (D0_4.out.next hb)
  have D1_5 := Lib.hid (D1_4.out.next hb)
  have D2_5 := Lib.hid (D2_4.out.next hb)
  have HT_5 := Lib.hid (HT_4.out.next hb)
  have HB_5 := Lib.hid (Below.next HB_4.out hb)
  clear hb D0_4 D1_4 D2_4 HT_4 HB_4
  go_wp2_with (fail)
  have qD00 := fun r : Over u5 => (D0_5.out.over r).v0
  have qD01 := fun r : Over u5 => (D0_5.out.over r).v1
  have qD02 := fun r : Over u5 => (D0_5.out.over r).v2
  have qD03 := fun r : Over u5 => (D0_5.out.over r).v3
  have qD04 := fun r : Over u5 => (D0_5.out.over r).v4
  have qD10 := fun r : Over u5 => (D1_5.out.over r).v0
  have qD11 := fun r : Over u5 => (D1_5.out.over r).v1
  have qD12 := fun r : Over u5 => (D1_5.out.over r).v2
  have qD13 := fun r : Over u5 => (D1_5.out.over r).v3
  have qD14 := fun r : Over u5 => (D1_5.out.over r).v4
  have qD20 := fun r : Over u5 => (D2_5.out.over r).v0
  have qD21 := fun r : Over u5 => (D2_5.out.over r).v1
  have qD22 := fun r : Over u5 => (D2_5.out.over r).v2
  have qD23 := fun r : Over u5 => (D2_5.out.over r).v3
  have qD24 := fun r : Over u5 => (D2_5.out.over r).v4
  refine wp_over (by kernel_rfl) (by kernel_rfl) ?_
  repeat (go_big_quiet_step (first | fail | with_reducible exact over_gives _ (HO01.out _) | with_reducible exact over_gives _ (HO12.out _)))
  refine wpQuiet_nil ?_
  rintro u6 ⟨⟨u6, hb⟩, rfl⟩
  clear qD00 qD01 qD02 qD03 qD04 qD10 qD11 qD12 qD13 qD14 qD20 qD21 qD22 qD23 qD24
  have D0_6 := Lib.hid (D0_5.out.next hb)
  have D1_6 := Lib.hid (D1_5.out.next hb)
  have D2_6 := Lib.hid (D2_5.out.next hb)
  have HT_6 := Lib.hid (HT_5.out.next hb)
  have HB_6 := Lib.hid (Below.next HB_5.out hb)
  clear hb D0_5 D1_5 D2_5 HT_5 HB_5
  have cD00 := D0_6.out.v0; have cD01 := D0_6.out.v1; have cD02 := D0_6.out.v2; have cD03 := D0_6.out.v3; have cD04 := D0_6.out.v4; have cD10 := D1_6.out.v0; have cD11 := D1_6.out.v1; have cD12 := D1_6.out.v2; have cD13 := D1_6.out.v3; have cD14 := D1_6.out.v4
  go_wp2_with (fail)
  clear cD00 cD01 cD02 cD03 cD04 cD10 cD11 cD12 cD13 cD14
  refine (HO10.out _).mono ?_
  rintro e u7 ⟨rfl, hb⟩
  have D0_7 := Lib.hid (D0_6.out.next hb)
  have D1_7 := Lib.hid (D1_6.out.next hb)
  have D2_7 := Lib.hid (D2_6.out.next hb)
  have HT_7 := Lib.hid (HT_6.out.next hb)
  have HB_7 := Lib.hid (Below.next HB_6.out hb)
  clear hb D0_6 D1_6 D2_6 HT_6 HB_6
  have cD00 := D0_7.out.v0; have cD01 := D0_7.out.v1; have cD02 := D0_7.out.v2; have cD03 := D0_7.out.v3; have cD04 := D0_7.out.v4; have cD10 := D1_7.out.v0; have cD11 := D1_7.out.v1; have cD12 := D1_7.out.v2; have cD13 := D1_7.out.v3; have cD14 := D1_7.out.v4; have cD20 := D2_7.out.v0; have cD21 := D2_7.out.v1; have cD22 := D2_7.out.v2; have cD23 := D2_7.out.v3; have cD24 := D2_7.out.v4
  go_wp2_with (fail)
  clear cD00 cD01 cD02 cD03 cD04 cD10 cD11 cD12 cD13 cD14 cD20 cD21 cD22 cD23 cD24
  refine (HO02.out _).mono ?_
  rintro e u8 ⟨rfl, hb⟩
  have D0_8 := Lib.hid (D0_7.out.next hb)
  have D1_8 := Lib.hid (D1_7.out.next hb)
  have D2_8 := Lib.hid (D2_7.out.next hb)
  have HT_8 := Lib.hid (HT_7.out.next hb)
  have HB_8 := Lib.hid (Below.next HB_7.out hb)
  clear hb D0_7 D1_7 D2_7 HT_7 HB_7
  have cD00 := D0_8.out.v0; have cD01 := D0_8.out.v1; have cD02 := D0_8.out.v2; have cD03 := D0_8.out.v3; have cD04 := D0_8.out.v4; have cD10 := D1_8.out.v0; have cD11 := D1_8.out.v1; have cD12 := D1_8.out.v2; have cD13 := D1_8.out.v3; have cD14 := D1_8.out.v4; have cD20 := D2_8.out.v0; have cD21 := D2_8.out.v1; have cD22 := D2_8.out.v2; have cD23 := D2_8.out.v3; have cD24 := D2_8.out.v4
  go_wp2_with (fail)
  clear cD00 cD01 cD02 cD03 cD04 cD10 cD11 cD12 cD13 cD14 cD20 cD21 cD22 cD23 cD24
  refine (HO02.out _).mono ?_
  rintro e u9 ⟨rfl, hb⟩
  have D0_9 := Lib.hid (D0_8.out.next hb)
  have D1_9 := Lib.hid (D1_8.out.next hb)
  have D2_9 := Lib.hid (D2_8.out.next hb)
  have HT_9 := Lib.hid (HT_8.out.next hb)
  have HB_9 := Lib.hid (Below.next HB_8.out hb)
  clear hb D0_8 D1_8 D2_8 HT_8 HB_8
  go_wp2_with (fail)
  go_ret
  exact ⟨rfl, HB_9.out⟩

/-! ### THE WALK -/
theorem walk (k0 n0 : Int) (s0 : ByteArray) (x0 y0 : Int) (k1 n1 : Int) (s1 : ByteArray) (x1 y1 : Int) (k2 n2 : Int) (s2 : ByteArray) (x2 y2 : Int) (wk0 : (Lit.int .i64 k0).wf = true) (wn0 : (Lit.int .i64 n0).wf = true) (ws0 : s0.size ≤ maxLen) (wx0 : (Lit.int .i64 x0).wf = true) (wy0 : (Lit.int .i64 y0).wf = true) (wk1 : (Lit.int .i64 k1).wf = true) (wn1 : (Lit.int .i64 n1).wf = true) (ws1 : s1.size ≤ maxLen) (wx1 : (Lit.int .i64 x1).wf = true) (wy1 : (Lit.int .i64 y1).wf = true) (wk2 : (Lit.int .i64 k2).wf = true) (wn2 : (Lit.int .i64 n2).wf = true) (ws2 : s2.size ≤ maxLen) (wx2 : (Lit.int .i64 x2).wf = true) (wy2 : (Lit.int .i64 y2).wf = true) (w : World) (hT : Ov.Tab w) : Calls Tryd.prog 4 #[.agg #[.int .i64 k0, .int .i64 n0, .string s0, .int .i64 x0, .int .i64 y0], .agg #[.int .i64 k1, .int .i64 n1, .string s1, .int .i64 x1, .int .i64 y1], .agg #[.int .i64 k2, .int .i64 n2, .string s2, .int .i64 x2, .int .i64 y2]] w (Ov.Gives (.bool true) w) := by
  rcases Bool.eq_false_or_eq_true (rt ⟨k0, n0, s0.data.toList, x0, y0⟩) with h0 | h0
  rotate_left
  · exact bad0 k0 n0 x0 y0 k1 n1 x1 y1 k2 n2 x2 y2 s0 s1 s2 w hT h0
  rcases Bool.eq_false_or_eq_true (rt ⟨k1, n1, s1.data.toList, x1, y1⟩) with h1 | h1
  rotate_left
  · exact bad1 k0 n0 x0 y0 k1 n1 x1 y1 k2 n2 x2 y2 s0 s1 s2 w hT h0 h1
  rcases Bool.eq_false_or_eq_true (rt ⟨k2, n2, s2.data.toList, x2, y2⟩) with h2 | h2
  rotate_left
  · exact bad2 k0 n0 x0 y0 k1 n1 x1 y1 k2 n2 x2 y2 s0 s1 s2 w hT h0 h1 h2
  have g1 := ord_neg ⟨k0, n0, s0.data.toList, x0, y0⟩ ⟨k1, n1, s1.data.toList, x1, y1⟩
  have g2 := ord_zero ⟨k0, n0, s0.data.toList, x0, y0⟩ ⟨k1, n1, s1.data.toList, x1, y1⟩
  have g3 := ord_trans ⟨k0, n0, s0.data.toList, x0, y0⟩ ⟨k1, n1, s1.data.toList, x1, y1⟩ ⟨k2, n2, s2.data.toList, x2, y2⟩
  have r1 := ord_rng ⟨k0, n0, s0.data.toList, x0, y0⟩ ⟨k1, n1, s1.data.toList, x1, y1⟩
  have r2 := ord_rng ⟨k1, n1, s1.data.toList, x1, y1⟩ ⟨k2, n2, s2.data.toList, x2, y2⟩
  have r3 := ord_rng ⟨k0, n0, s0.data.toList, x0, y0⟩ ⟨k2, n2, s2.data.toList, x2, y2⟩
  obtain ⟨q, hq⟩ : ∃ q, ord ⟨k1, n1, s1.data.toList, x1, y1⟩ ⟨k2, n2, s2.data.toList, x2, y2⟩ = q := ⟨_, rfl⟩
  obtain ⟨t, ht⟩ : ∃ t, ord ⟨k0, n0, s0.data.toList, x0, y0⟩ ⟨k2, n2, s2.data.toList, x2, y2⟩ = t := ⟨_, rfl⟩
  rw [hq] at r2 g3; rw [ht] at r3 g3
  rcases r1 with e | e | e
  · rw [e] at g1 g2 g3
    have ez : ve ⟨k0, n0, s0.data.toList, x0, y0⟩ ⟨k1, n1, s1.data.toList, x1, y1⟩ = false := decide_eq_false (fun h => absurd (g2.2 h) (by decide))
    by_cases hp : 0 < q
    · exact core_nq k0 n0 x0 y0 k1 n1 x1 y1 k2 n2 x2 y2 s0 s1 s2 w hT h0 h1 h2 (by omega) (by omega) e (by omega) hq ht ez
    · exact core_nt k0 n0 x0 y0 k1 n1 x1 y1 k2 n2 x2 y2 s0 s1 s2 w hT h0 h1 h2 (by omega) (by have := g3 (by omega) (by omega); omega) e (by omega) hq ht ez
  · rw [e] at g1 g2 g3
    have ez : ve ⟨k0, n0, s0.data.toList, x0, y0⟩ ⟨k1, n1, s1.data.toList, x1, y1⟩ = true := decide_eq_true (g2.1 rfl)
    by_cases hp : 0 < q
    · exact core_0q k0 n0 x0 y0 k1 n1 x1 y1 k2 n2 x2 y2 s0 s1 s2 w hT h0 h1 h2 (by omega) (by omega) e (by omega) hq ht ez
    · exact core_0t k0 n0 x0 y0 k1 n1 x1 y1 k2 n2 x2 y2 s0 s1 s2 w hT h0 h1 h2 (by omega) (by have := g3 (by omega) (by omega); omega) e (by omega) hq ht ez
  · rw [e] at g1 g2 g3
    have ez : ve ⟨k0, n0, s0.data.toList, x0, y0⟩ ⟨k1, n1, s1.data.toList, x1, y1⟩ = false := decide_eq_false (fun h => absurd (g2.2 h) (by decide))
    exact core_pos k0 n0 x0 y0 k1 n1 x1 y1 k2 n2 x2 y2 s0 s1 s2 w hT h0 h1 h2 (by omega) (by omega) e (by omega) hq ht ez

/-! ### THE ROW's STEP -/
/-- The door's own heap meets the condition. -/
theorem door_met (os : Os) (args : Array Value) : laidMetH Tryd.prog Rows.valueOrderRow.laid ((World.doorLaid Tryd.prog 24 os).forCall (fun _ _ => 0) ⟨#[], args, []⟩).memory :=
  laidMetH_of_parts3 (fuel := 8) (laidMet_of_run' 8 (by kernel_rfl) (by kernel_rfl)) (by kernel_rfl) (by kernel_rfl)
set_option maxRecDepth 100000 in
theorem lifted (os : Os) (started : os.Started) (H : Type) (enc : TypeId × Value → H) :
    ReturnsInHanded {} Tryd.checked os 4 .any (fun w args => (Rows.valueOrderSpec.pre enc Tryd.prog Tryd.f4 [] false w args ∧ laidMetH Tryd.prog Rows.valueOrderRow.laid w) ∧ sizedMet enc Tryd.prog Tryd.f4 (OpenSpec.ofChange Rows.valueOrderSpec) false w args)
      (Rows.valueOrderSpec.post enc Tryd.prog Tryd.f4 false true false false) := by
  refine returnsInHanded_of_change_and (C := Tryd.checked) (X := fun w _ => laidMetH Tryd.prog Rows.valueOrderRow.laid w) (fun _ _ _ hh h => h.of_heap hh) own started (by kernel_rfl) Tryd.func4
    (ChangeSpec.witness_shaped (enc := enc) (C := Tryd.checked) (os := os) (X := fun w _ => laidMetH Tryd.prog Rows.valueOrderRow.laid w) false (World.doorLaid Tryd.prog 24 os) #[.agg #[.int .i64 0, .int .i64 0, .string ⟨#[]⟩, .int .i64 0, .int .i64 0], .agg #[.int .i64 0, .int .i64 0, .string ⟨#[]⟩, .int .i64 0, .int .i64 0], .agg #[.int .i64 0, .int .i64 0, .string ⟨#[]⟩, .int .i64 0, .int .i64 0]] 8 rfl (World.shaped_of_RefB (by kernel_rfl) (by kernel_rfl)) (by kernel_rfl) (by kernel_rfl) (by kernel_rfl) (door_met os _)) ?_
  intro W base args ds gs before hval0 hW _ _ hL _
  have hval : ∀ (j : Nat) t v, Tryd.f4.params[j]? = some t → args[j]? = some v → Value.okWide Tryd.prog W .any base t v := hval0
  have hW' := hW
  obtain ⟨p, q, hA0, hV, rfl, hfz, hnd⟩ := hW
  have hA : DataW.TrodAll enc Tryd.prog W 0 (fun _ => true) true Tryd.f4.params.toList args.toList ds p := hA0
  rw [Tryd.params4] at hA hval
  obtain ⟨v0, vs0, d0, ds0, p0, q0, hargs, rfl, rfl, h0, r0⟩ := trodAll_cons hA
  obtain ⟨v1, vs1, d1, ds1, p1, q1, rfl, rfl, rfl, h1, r1⟩ := trodAll_cons r0
  obtain ⟨v2, vs2, d2, ds2, p2, q2, rfl, rfl, rfl, h2, r2⟩ := trodAll_cons r1
  obtain ⟨rfl, rfl, rfl⟩ := trodAll_nil r2
  obtain rfl : args = #[v0, v1, v2] := by cases args; simp_all
  obtain ⟨rfl, rfl⟩ := trodVars_none hV
  obtain ⟨k0, n0, s0, x0, y0, rfl, rfl, rfl, wk0, wn0, ws0, wx0, wy0⟩ := Va.val_of (hval 0 25 v0 rfl rfl) h0
  obtain ⟨k1, n1, s1, x1, y1, rfl, rfl, rfl, wk1, wn1, ws1, wx1, wy1⟩ := Va.val_of (hval 1 25 v1 rfl rfl) h1
  obtain ⟨k2, n2, s2, x2, y2, rfl, rfl, rfl, wk2, wn2, ws2, wx2, wy2⟩ := Va.val_of (hval 2 25 v2 rfl rfl) h2
  have hT : Ov.Tab W := by
    rw [MakeChecks.laidMetH_plain _ _ _ (by kernel_rfl)] at hL
    exact Ov.tab_met (d := Rows.laid_internal_strconv_uint64pow10) rfl (by simp [Rows.valueOrderRow]) hL
  clear hA0 hval0
  simp only [List.append_nil] at hW'
  refine (walk k0 n0 s0 x0 y0 k1 n1 s1 x1 y1 k2 n2 s2 x2 y2 wk0 wn0 ws0 wx0 wy0 wk1 wn1 ws1 wx1 wy1 wk2 wn2 ws2 wx2 wy2 W hT).mono fun e W' ⟨he, bel⟩ => ?_
  subst he
  exact ⟨_, rfl, _, _, _, [], _, [], hW', trodAll_mk1 (shut_bool Tryd.underlying4 _), (trodAll_cons_mk (Va.shut_val wk0 wn0 ws0 wx0 wy0) (trodAll_cons_mk (Va.shut_val wk1 wn1 ws1 wx1 wy1) (trodAll_cons_mk (Va.shut_val wk2 wn2 ws2 wx2 wy2) trodAll_mk0))), rfl, bel.frame _, fun h => by cases h⟩

theorem over : Rows.ValueOrderSaid :=
  OpenClaim.holds_of_wide 4 Tryd.f4 rfl rfl rfl rfl rfl rfl rfl ⟨rfl, rfl, rfl, rfl, rfl⟩ rfl rfl rfl rfl rfl (by kernel_rfl) Tryd.func4 (by kernel_rfl)
    (of_decide_eq_true (by kernel_rfl)) (by unfold Func.isWrapper; first | (rw [if_pos (by decide +kernel)]; kernel_rfl) | (rw [if_neg (by decide +kernel)]; exact ⟨rfl, rfl⟩))
    (fun os started H enc _ => lifted os started H enc)

/-- ████ THE STATEMENT: THE TIED CARD ████ -/
theorem proved : Rows.ValueOrderCardSaid :=
  Claim7.holds_tied_plain_at .later [] [.data, .data, .data] true (true, "6db8aa37df9c87ca66d062f18688740b9336714075edfda8a8596ccb129de9d6") false
    over (fun _ h => by cases h) (by kernel_rfl) (fun _ h => by cases h) valueOrder_row_tie rfl ⟨rfl, rfl⟩ (by kernel_rfl) rfl
    (fun f fn hf hfn => by
      obtain rfl : f = 4 := Option.some.inj ((show Tryd.prog.funcNamed "stook/stooklaw07.ValueOrder" = some 4 by kernel_rfl).symm.trans hf) |>.symm
      obtain rfl : fn = Tryd.f4 := (Option.some.inj (Tryd.func4.symm.trans hfn)).symm
      exact ⟨by kernel_rfl, fun j t ht => by
        rw [Tryd.params4] at ht
        have hm : t ∈ [25] := by simpa using Array.mem_of_getElem? ht
        have hall : ([25].all fun u => !Tryd.prog.wantsStandIn u) = true := by kernel_rfl
        exact (show Tryd.prog.wantsStandIn t = false by simpa using List.all_eq_true.1 hall t hm)⟩)
    (by kernel_rfl)
#print axioms proved
end Go.Proofs.YtpickeicchmhnaaDoor.valueOrder
