/-
  Proved: for every input the law ValueBack returns true, and leaves its arguments as they were; the tables that it reads lie as start-up lays them (the card ties them to the program's text). No other condition.
-/
import Derived.Test.YtpickeicchmhnaaDoorCards
import Derived.Test.YtpickeicchmhnaaDoorTie
import Derived.WalkKit
import Derived.ProofKit
import Derived.OpenShut
import Derived.ShutString
import Derived.LaidMore
import Derived.Stop.Joined
import Derived.SevenTiedAt
import Derived.Test.YtpickeicchmhnaaDoorOvLaid
import Derived.Test.YtpickeicchmhnaaDoorVaBytes
import Derived.Test.YtpickeicchmhnaaDoorVaRd3
import Derived.Test.YtpickeicchmhnaaDoorVaAwake
import Derived.Test.YtpickeicchmhnaaDoorTpLaid
namespace Go.Proofs.YtpickeicchmhnaaDoor.valueBack
open Go.ChangeShapes Go.WideShapes Go.ChangeAt Go.RowKit
open Go.ChangeMaps (open_string shut_string)
set_option linter.unusedVariables false      -- a walk need not use every 'w<i>'

theorem own : ownKnob Tryd.prog.godebug = none := by kernel_rfl

open Go.Proofs.YtpickeicchmhnaaDoor.Va Go.Proofs.YtpickeicchmhnaaDoor.Ov Go.Proofs.YtpickeicchmhnaaDoor.Tp
theorem vb_le {v : Va} (h : rt v = true) : (vb v).length ≤ 4200 := by
  obtain ⟨k, n, s, x, y⟩ := v
  rcases rt_yes h with ⟨h0, h1, h2, h3, h4, h5⟩ | ⟨h0, h1, h2, h3, h4⟩ | ⟨h0, h1, h2, h3⟩
  · dsimp only at h0 h1 h2
    subst h0; rw [vb_int, List.length_append, List.length_append]
    have g0 := nb_len8 (n := 0) (by omega)
    have g1 := nb_len8 (n := wn (n / 134217728)) (wn_le (by omega) (by omega))
    have g2 := nb_len8 (n := (n % 134217728).toNat) (by omega)
    omega
  · dsimp only at h0 h2
    subst h0; rw [vb_text, List.length_append, List.length_append]
    have g0 := nb_len8 (n := 1) (by omega)
    have g1 := nb_len8 (n := s.length) (by omega)
    omega
  · dsimp only at h0 h3
    subst h0
    obtain ⟨f1, f2⟩ := Ga.rb_xy h3
    rw [vb_point, List.length_append, List.length_append]
    have g0 := nb_len8 (n := 2) (by omega)
    have g1 := nb_len8 (n := wn x) (wn_le (by omega) (by omega))
    have g2 := nb_len8 (n := wn y) (wn_le (by omega) (by omega))
    omega
set_option maxHeartbeats 1000000 in
theorem long0 (k0 n0 x0 y0 : Int) (s0 a1 : ByteArray) (w : World) (hT : Tab w) (z0 : (6000 : Int) < (s0.size : Int)) : Calls Tryd.prog 3 #[.agg #[.int .i64 k0, .int .i64 n0, .string s0, .int .i64 x0, .int .i64 y0], .string a1] w (Gives (.bool true) w) := by
  go_enter Tryd.func3, Tryd.ntmps3
  go_wp2_with (fail)
  have kb := box1 w (.cells #[.int .i64 k0, .int .i64 n0, .string s0, .int .i64 x0, .int .i64 y0] 25)
  have HT_0 := Lib.hid (hT.next kb)
  have HB_0 := Lib.hid kb
  clear kb
  have D0_0 : Blk (w.alloc (.cells #[.int .i64 k0, .int .i64 n0, .string s0, .int .i64 x0, .int .i64 y0] 25)) (w.heap.size) (vcs k0 n0 s0 x0 y0) := (Blk.made w 25 (vcs k0 n0 s0 x0 y0) rfl)
  have D0_1 := Lib.hid D0_0; clear D0_0
  generalize w.alloc (.cells #[.int .i64 k0, .int .i64 n0, .string s0, .int .i64 x0, .int .i64 y0] 25) = v at *
  refine (awake_any _ HT_0.out).mono ?_
  rintro e u2 ⟨rfl, hb⟩
  have D0_2 := Lib.hid (D0_1.out.next hb)
  have HT_2 := Lib.hid (HT_0.out.next hb)
  have HB_2 := Lib.hid (Below.next HB_0.out hb)
  clear hb D0_1 HT_0 HB_0
  have cD00 := D0_2.out.v0; have cD01 := D0_2.out.v1; have cD02 := D0_2.out.v2; have cD03 := D0_2.out.v3; have cD04 := D0_2.out.v4
  go_wp2_with (fail)
  clear cD00 cD01 cD02 cD03 cD04
  refine (awake_any _ HT_2.out).mono ?_
  rintro e u3 ⟨rfl, hb⟩
  have D0_3 := Lib.hid (D0_2.out.next hb)
  have HT_3 := Lib.hid (HT_2.out.next hb)
  have HB_3 := Lib.hid (Below.next HB_2.out hb)
  clear hb D0_2 HT_2 HB_2
  go_wp2_with (fail)
  go_ret
  exact ⟨rfl, HB_3.out⟩
set_option maxHeartbeats 1000000 in
theorem long1 (k0 n0 x0 y0 : Int) (s0 a1 : ByteArray) (w : World) (hT : Tab w) (z0 : ¬ (6000 : Int) < (s0.size : Int)) (z1 : (6000 : Int) < (a1.size : Int)) : Calls Tryd.prog 3 #[.agg #[.int .i64 k0, .int .i64 n0, .string s0, .int .i64 x0, .int .i64 y0], .string a1] w (Gives (.bool true) w) := by
  go_enter Tryd.func3, Tryd.ntmps3
  go_wp2_with (fail)
  have kb := box1 w (.cells #[.int .i64 k0, .int .i64 n0, .string s0, .int .i64 x0, .int .i64 y0] 25)
  have HT_0 := Lib.hid (hT.next kb)
  have HB_0 := Lib.hid kb
  clear kb
  have D0_0 : Blk (w.alloc (.cells #[.int .i64 k0, .int .i64 n0, .string s0, .int .i64 x0, .int .i64 y0] 25)) (w.heap.size) (vcs k0 n0 s0 x0 y0) := (Blk.made w 25 (vcs k0 n0 s0 x0 y0) rfl)
  have D0_1 := Lib.hid D0_0; clear D0_0
  generalize w.alloc (.cells #[.int .i64 k0, .int .i64 n0, .string s0, .int .i64 x0, .int .i64 y0] 25) = v at *
  refine (awake_any _ HT_0.out).mono ?_
  rintro e u2 ⟨rfl, hb⟩
  have D0_2 := Lib.hid (D0_1.out.next hb)
  have HT_2 := Lib.hid (HT_0.out.next hb)
  have HB_2 := Lib.hid (Below.next HB_0.out hb)
  clear hb D0_1 HT_0 HB_0
  have cD00 := D0_2.out.v0; have cD01 := D0_2.out.v1; have cD02 := D0_2.out.v2; have cD03 := D0_2.out.v3; have cD04 := D0_2.out.v4
  go_wp2_with (fail)
  clear cD00 cD01 cD02 cD03 cD04
  refine (awake_any _ HT_2.out).mono ?_
  rintro e u3 ⟨rfl, hb⟩
  have D0_3 := Lib.hid (D0_2.out.next hb)
  have HT_3 := Lib.hid (HT_2.out.next hb)
  have HB_3 := Lib.hid (Below.next HB_2.out hb)
  clear hb D0_2 HT_2 HB_2
  go_wp2_with (fail)
  go_ret
  exact ⟨rfl, HB_3.out⟩
set_option maxHeartbeats 1000000 in
theorem bad0 (k0 n0 x0 y0 : Int) (s0 a1 : ByteArray) (w : World) (hT : Tab w) (z0 : ¬ (6000 : Int) < (s0.size : Int)) (z1 : ¬ (6000 : Int) < (a1.size : Int)) (h0 : rt ⟨k0, n0, s0.data.toList, x0, y0⟩ = false) : Calls Tryd.prog 3 #[.agg #[.int .i64 k0, .int .i64 n0, .string s0, .int .i64 x0, .int .i64 y0], .string a1] w (Gives (.bool true) w) := by
  have HR0 := Lib.hid (right_val k0 n0 x0 y0 s0)
  rw [h0] at HR0; clear h0
  go_enter Tryd.func3, Tryd.ntmps3
  go_wp2_with (fail)
  have kb := box1 w (.cells #[.int .i64 k0, .int .i64 n0, .string s0, .int .i64 x0, .int .i64 y0] 25)
  have HT_0 := Lib.hid (hT.next kb)
  have HB_0 := Lib.hid kb
  clear kb
  have D0_0 : Blk (w.alloc (.cells #[.int .i64 k0, .int .i64 n0, .string s0, .int .i64 x0, .int .i64 y0] 25)) (w.heap.size) (vcs k0 n0 s0 x0 y0) := (Blk.made w 25 (vcs k0 n0 s0 x0 y0) rfl)
  have D0_1 := Lib.hid D0_0; clear D0_0
  generalize w.alloc (.cells #[.int .i64 k0, .int .i64 n0, .string s0, .int .i64 x0, .int .i64 y0] 25) = v at *
  refine (awake_any _ HT_0.out).mono ?_
  rintro e u2 ⟨rfl, hb⟩
  have D0_2 := Lib.hid (D0_1.out.next hb)
  have HT_2 := Lib.hid (HT_0.out.next hb)
  have HB_2 := Lib.hid (Below.next HB_0.out hb)
  clear hb D0_1 HT_0 HB_0
  have cD00 := D0_2.out.v0; have cD01 := D0_2.out.v1; have cD02 := D0_2.out.v2; have cD03 := D0_2.out.v3; have cD04 := D0_2.out.v4
  go_wp2_with (fail)
  clear cD00 cD01 cD02 cD03 cD04
  refine (HR0.out _).mono ?_
  rintro e u3 ⟨rfl, hb⟩
  have D0_3 := Lib.hid (D0_2.out.next hb)
  have HT_3 := Lib.hid (HT_2.out.next hb)
  have HB_3 := Lib.hid (Below.next HB_2.out hb)
  clear hb D0_2 HT_2 HB_2
  go_wp2_with (fail)
  refine (awake_any _ HT_3.out).mono ?_
  rintro e u4 ⟨rfl, hb⟩
  have D0_4 := Lib.hid (D0_3.out.next hb)
  have HT_4 := Lib.hid (HT_3.out.next hb)
  have HB_4 := Lib.hid (Below.next HB_3.out hb)
  clear hb D0_3 HT_3 HB_3
  go_wp2_with (fail)
  go_ret
  exact ⟨rfl, HB_4.out⟩
set_option maxRecDepth 100000 in
set_option maxHeartbeats 4000000 in
theorem core (k0 n0 x0 y0 : Int) (s0 a1 : ByteArray) (w : World) (hT : Tab w) (z0 : ¬ (6000 : Int) < (s0.size : Int)) (z1 : ¬ (6000 : Int) < (a1.size : Int)) (h0 : rt ⟨k0, n0, s0.data.toList, x0, y0⟩ = true) : Calls Tryd.prog 3 #[.agg #[.int .i64 k0, .int .i64 n0, .string s0, .int .i64 x0, .int .i64 y0], .string a1] w (Gives (.bool true) w) := by
  have hz1 : a1.size ≤ 6000 := by omega
  have HBv := Lib.hid (bytes_yes h0)
  have HWv := Lib.hid (write_yes h0)
  have u1 := vb_le h0
  have u2 := wr_le h0
  have HRD := Lib.hid (rd_vb h0 a1.data.toList)
  have HPZ := Lib.hid (pz_wr h0 (ends_blank ⟨k0, n0, s0.data.toList, x0, y0⟩ a1.data.toList))
  have HVE : Hid (ve ⟨k0, n0, s0.data.toList, x0, y0⟩ ⟨k0, n0, s0.data.toList, x0, y0⟩ = true) := decide_eq_true rfl
  have hE := eql_val k0 n0 x0 y0 k0 n0 x0 y0 s0 s0
  rw [HVE.out] at hE; clear HVE
  have HVV : Hid (vv ⟨k0, n0, s0.data.toList, x0, y0⟩ = .agg #[.int .i64 k0, .int .i64 n0, .string s0, .int .i64 x0, .int .i64 y0]) := by show _ = _; unfold vv; rw [tx_of]
  have HR0 := Lib.hid (right_val k0 n0 x0 y0 s0)
  rw [h0] at HR0; clear h0
  generalize vb ⟨k0, n0, s0.data.toList, x0, y0⟩ = lb at *
  generalize wr ⟨k0, n0, s0.data.toList, x0, y0⟩ = lw at *
  have zb : (tx lb).size = lb.length := tx_size lb
  have zw : (tx lw).size = lw.length := tx_size lw
  have HLB : Hid ((tx lb ++ a1).data.toList = lb ++ a1.data.toList) := by show _ = _; rw [list_append, tx_list]
  have HLW : Hid ((tx lw ++ ⟨#[32]⟩ ++ a1).data.toList = lw ++ 32 :: a1.data.toList) := by
    show _ = _
    rw [list_append, list_append, tx_list]; simp
  have HSZ : Hid ((tx lb ++ a1).size ≤ 281474976710656) := by show _ ≤ _; simp; omega
  have HSW : Hid ((tx lw ++ ⟨#[32]⟩ ++ a1).size ≤ 281474976710656) := by
    show _ ≤ _
    rw [ByteArray.size_append, ByteArray.size_append]; show (tx lw).size + 1 + a1.size ≤ _; omega
  have HLL : Hid ((lb ++ a1.data.toList).length ≤ 281474976710656) := by show _ ≤ _; rw [List.length_append]; simp; omega
  have HLR : Hid (a1.data.toList.length = a1.size) := by show _ = _; simp
  obtain ⟨m, hm⟩ : ∃ m, lw.length = m := ⟨_, rfl⟩
  have HM := Lib.hid hm
  rw [hm] at HPZ
  generalize tx lb = tb at *
  generalize tx lw = tw at *
  have g1 : ¬ tb.size + a1.size > 9223372036854775807 := by omega
  have g2 : ¬ tw.size + 1 > 9223372036854775807 := by omega
  have g3 : ¬ tw.size + 1 + a1.size > 9223372036854775807 := by omega
  have g4 : ((m : Int) == (tw.size : Int)) = true := by rw [beq_iff_eq]; omega
  have HPP : Hid (∀ w, Calls Tryd.prog 13 #[.string (tw ++ ⟨#[32]⟩ ++ a1)] w (Gives (.tuple #[.agg #[.int .i64 k0, .int .i64 n0, .string s0, .int .i64 x0, .int .i64 y0], .int .i64 (m : Int), .int .i64 0]) w)) := fun w => by
    have h := parse_any (tw ++ ⟨#[32]⟩ ++ a1) w HSW.out
    rw [HLW.out, HPZ.out] at h
    have e : prv (⟨k0, n0, s0.data.toList, x0, y0⟩, m, 0) = .tuple #[.agg #[.int .i64 k0, .int .i64 n0, .string s0, .int .i64 x0, .int .i64 y0], .int .i64 (m : Int), .int .i64 0] := by rw [← HVV.out]; rfl
    rw [e] at h; exact h
  clear zb zw u1 u2 hm HPZ HLW HSW
  go_enter Tryd.func3, Tryd.ntmps3
  go_wp2_with (fail)
  have kb := box1 w (.cells #[.int .i64 k0, .int .i64 n0, .string s0, .int .i64 x0, .int .i64 y0] 25)
  have HT_0 := Lib.hid (hT.next kb)
  have HB_0 := Lib.hid kb
  clear kb
  have D0_0 : Blk (w.alloc (.cells #[.int .i64 k0, .int .i64 n0, .string s0, .int .i64 x0, .int .i64 y0] 25)) (w.heap.size) (vcs k0 n0 s0 x0 y0) := (Blk.made w 25 (vcs k0 n0 s0 x0 y0) rfl)
  have D0_1 := Lib.hid D0_0; clear D0_0
  generalize w.alloc (.cells #[.int .i64 k0, .int .i64 n0, .string s0, .int .i64 x0, .int .i64 y0] 25) = v at *
  refine (awake_any _ HT_0.out).mono ?_
  rintro e u2 ⟨rfl, hb⟩
  have D0_2 := Lib.hid (D0_1.out.next hb)
  have HT_2 := Lib.hid (HT_0.out.next hb)
  have HB_2 := Lib.hid (Below.next HB_0.out hb)
  clear hb D0_1 HT_0 HB_0
  have cD00 := D0_2.out.v0; have cD01 := D0_2.out.v1; have cD02 := D0_2.out.v2; have cD03 := D0_2.out.v3; have cD04 := D0_2.out.v4
  go_wp2_with (fail)
  clear cD00 cD01 cD02 cD03 cD04
  refine (HR0.out _).mono ?_
  rintro e u3 ⟨rfl, hb⟩
  have D0_3 := Lib.hid (D0_2.out.next hb)
  have HT_3 := Lib.hid (HT_2.out.next hb)
  have HB_3 := Lib.hid (Below.next HB_2.out hb)
  clear hb D0_2 HT_2 HB_2
  have cD00 := D0_3.out.v0; have cD01 := D0_3.out.v1; have cD02 := D0_3.out.v2; have cD03 := D0_3.out.v3; have cD04 := D0_3.out.v4
  go_wp2_with (fail)
  clear cD00 cD01 cD02 cD03 cD04
  refine (HBv.out _).mono ?_
  rintro e u4 ⟨rfl, hb⟩
  have D0_4 := Lib.hid (D0_3.out.next hb)
  have HT_4 := Lib.hid (HT_3.out.next hb)
  have HB_4 := Lib.hid (Below.next HB_3.out hb)
  clear hb D0_3 HT_3 HB_3
  go_wp2_with (fail)
  refine (new_any (tb ++ a1) _ HSZ.out).mono ?_
  rintro e u4 ⟨b, rfl, hlo, ht, hb1⟩
  rw [HLB.out] at ht
  have HI4 := Lib.hid ht
  have HB4 := Lib.hid hb1
  have hlo4 := Lib.hid hlo
  clear ht hb1 hlo
  go_wp2_with (fail)
  refine (read_any b _ _ HI4.out HLL.out).mono ?_
  rw [HRD.out]
  dsimp only
  rw [HVV.out]
  rintro e u5 ⟨rfl, ht, hu⟩
  have hb0 := HB4.out.trans (hu.below hlo4.out HB4.out.size)
  have hb := Below.next hb0 (box1 u5 (.cells #[.int .i64 k0, .int .i64 n0, .string s0, .int .i64 x0, .int .i64 y0] 25))
  have IT_1 : Hid (IsT (u5.alloc (.cells #[.int .i64 k0, .int .i64 n0, .string s0, .int .i64 x0, .int .i64 y0] 25)) b a1.data.toList) := Lib.hid (One.old ht (box1 u5 (.cells #[.int .i64 k0, .int .i64 n0, .string s0, .int .i64 x0, .int .i64 y0] 25)))
  have D7_0 := Blk.made u5 25 (vcs k0 n0 s0 x0 y0) rfl
  change Blk (u5.alloc (.cells #[.int .i64 k0, .int .i64 n0, .string s0, .int .i64 x0, .int .i64 y0] 25)) u5.heap.size _ at D7_0
  have D7_1 := Lib.hid D7_0
  clear ht hu hb0 HI4 HB4 hlo4 D7_0
  have D0_5 := Lib.hid (D0_4.out.next hb)
  have HT_5 := Lib.hid (HT_4.out.next hb)
  have HB_5 := Lib.hid (Below.next HB_4.out hb)
  clear hb D0_4 HT_4 HB_4
  have cD00 := D0_5.out.v0; have cD01 := D0_5.out.v1; have cD02 := D0_5.out.v2; have cD03 := D0_5.out.v3; have cD04 := D0_5.out.v4
  go_wp2_with (fail)
  clear cD00 cD01 cD02 cD03 cD04
  generalize u5.alloc (.cells #[.int .i64 k0, .int .i64 n0, .string s0, .int .i64 x0, .int .i64 y0] 25) = v5 at *
  generalize u5.heap.size = d7 at *
  refine (HWv.out _ HT_5.out).mono ?_
  rintro e u6 ⟨rfl, hb⟩
  have D0_6 := Lib.hid (D0_5.out.next hb)
  have HT_6 := Lib.hid (HT_5.out.next hb)
  have D7_6 := Lib.hid (D7_1.out.next hb)
  have IT_6 : Hid (IsT _ b a1.data.toList) := Lib.hid (One.old IT_1.out hb)
  have HB_6 := Lib.hid (Below.next HB_5.out hb)
  clear hb D0_5 HT_5 D7_1 IT_1 HB_5
  go_wp2_with (fail)
  refine (HPP.out _).mono ?_
  rintro e u9 ⟨rfl, hb⟩
  have D9_0 := Blk.made u9 25 (vcs k0 n0 s0 x0 y0) rfl
  change Blk (u9.alloc (.cells #[.int .i64 k0, .int .i64 n0, .string s0, .int .i64 x0, .int .i64 y0] 25)) u9.heap.size _ at D9_0
  have D9_1 := Lib.hid D9_0; clear D9_0
  have D0_7 := Lib.hid (D0_6.out.next hb)
  have HT_7 := Lib.hid (HT_6.out.next hb)
  have D7_7 := Lib.hid (D7_6.out.next hb)
  have IT_7 : Hid (IsT _ b a1.data.toList) := Lib.hid (One.old IT_6.out hb)
  have HB_7 := Lib.hid (Below.next HB_6.out hb)
  clear hb D0_6 HT_6 D7_6 IT_6 HB_6
  have hb := box1 u9 (.cells #[.int .i64 k0, .int .i64 n0, .string s0, .int .i64 x0, .int .i64 y0] 25)
  have D0_8 := Lib.hid (D0_7.out.next hb)
  have HT_8 := Lib.hid (HT_7.out.next hb)
  have D7_8 := Lib.hid (D7_7.out.next hb)
  have IT_8 : Hid (IsT _ b a1.data.toList) := Lib.hid (One.old IT_7.out hb)
  have HB_8 := Lib.hid (Below.next HB_7.out hb)
  clear hb D0_7 HT_7 D7_7 IT_7 HB_7
  have cD00 := D0_8.out.v0; have cD01 := D0_8.out.v1; have cD02 := D0_8.out.v2; have cD03 := D0_8.out.v3; have cD04 := D0_8.out.v4; have cD70 := D7_8.out.v0; have cD71 := D7_8.out.v1; have cD72 := D7_8.out.v2; have cD73 := D7_8.out.v3; have cD74 := D7_8.out.v4; have cD90 := D9_1.out.v0; have cD91 := D9_1.out.v1; have cD92 := D9_1.out.v2; have cD93 := D9_1.out.v3; have cD94 := D9_1.out.v4
  go_wp2_with (fail)
  refine (left_at b _ a1.size _ IT_8.out HLR.out).mono ?_
  rintro e w9 ⟨rfl, rfl⟩
  go_wp2_with (fail)
  go_ret
  exact ⟨rfl, HB_8.out⟩

/-! ### THE WALK -/
theorem walk (k0 n0 : Int) (s0 : ByteArray) (x0 y0 : Int) (a1 : ByteArray) (wk0 : (Lit.int .i64 k0).wf = true) (wn0 : (Lit.int .i64 n0).wf = true) (ws0 : s0.size ≤ maxLen) (wx0 : (Lit.int .i64 x0).wf = true) (wy0 : (Lit.int .i64 y0).wf = true) (w1 : a1.size ≤ maxLen) (w : World) (hT : Ov.Tab w) : Calls Tryd.prog 3 #[.agg #[.int .i64 k0, .int .i64 n0, .string s0, .int .i64 x0, .int .i64 y0], .string a1] w (Ov.Gives (.bool true) w) := by
  by_cases z0 : (6000 : Int) < (s0.size : Int)
  · exact long0 k0 n0 x0 y0 s0 a1 w hT z0
  by_cases z1 : (6000 : Int) < (a1.size : Int)
  · exact long1 k0 n0 x0 y0 s0 a1 w hT z0 z1
  rcases Bool.eq_false_or_eq_true (rt ⟨k0, n0, s0.data.toList, x0, y0⟩) with h0 | h0
  · exact core k0 n0 x0 y0 s0 a1 w hT z0 z1 h0
  · exact bad0 k0 n0 x0 y0 s0 a1 w hT z0 z1 h0

/-! ### THE ROW's STEP -/
/-- The door's own heap meets the condition. -/
theorem door_met (os : Os) (args : Array Value) : laidMetH Tryd.prog Rows.valueBackRow.laid ((World.doorLaid Tryd.prog 24 os).forCall (fun _ _ => 0) ⟨#[], args, []⟩).memory :=
  laidMetH_of_parts3 (fuel := 8) (laidMet_of_run' 8 (by kernel_rfl) (by kernel_rfl)) (by kernel_rfl) (by kernel_rfl)
set_option maxRecDepth 100000 in
theorem lifted (os : Os) (started : os.Started) (H : Type) (enc : TypeId × Value → H) :
    ReturnsInHanded {} Tryd.checked os 3 .any (fun w args => (Rows.valueBackSpec.pre enc Tryd.prog Tryd.f3 [] false w args ∧ laidMetH Tryd.prog Rows.valueBackRow.laid w) ∧ sizedMet enc Tryd.prog Tryd.f3 (OpenSpec.ofChange Rows.valueBackSpec) false w args)
      (Rows.valueBackSpec.post enc Tryd.prog Tryd.f3 false true false false) := by
  refine returnsInHanded_of_change_and (C := Tryd.checked) (X := fun w _ => laidMetH Tryd.prog Rows.valueBackRow.laid w) (fun _ _ _ hh h => h.of_heap hh) own started (by kernel_rfl) Tryd.func3
    (ChangeSpec.witness_shaped (enc := enc) (C := Tryd.checked) (os := os) (X := fun w _ => laidMetH Tryd.prog Rows.valueBackRow.laid w) false (World.doorLaid Tryd.prog 24 os) #[.agg #[.int .i64 0, .int .i64 0, .string ⟨#[]⟩, .int .i64 0, .int .i64 0], .string ⟨#[]⟩] 8 rfl (World.shaped_of_RefB (by kernel_rfl) (by kernel_rfl)) (by kernel_rfl) (by kernel_rfl) (by kernel_rfl) (door_met os _)) ?_
  intro W base args ds gs before hval0 hW _ _ hL _
  have hval : ∀ (j : Nat) t v, Tryd.f3.params[j]? = some t → args[j]? = some v → Value.okWide Tryd.prog W .any base t v := hval0
  have hW' := hW
  obtain ⟨p, q, hA0, hV, rfl, hfz, hnd⟩ := hW
  have hA : DataW.TrodAll enc Tryd.prog W 0 (fun _ => true) true Tryd.f3.params.toList args.toList ds p := hA0
  rw [Tryd.params3] at hA hval
  obtain ⟨v0, vs0, d0, ds0, p0, q0, hargs, rfl, rfl, h0, r0⟩ := trodAll_cons hA
  obtain ⟨v1, vs1, d1, ds1, p1, q1, rfl, rfl, rfl, h1, r1⟩ := trodAll_cons r0
  obtain ⟨rfl, rfl, rfl⟩ := trodAll_nil r1
  obtain rfl : args = #[v0, v1] := by cases args; simp_all
  obtain ⟨rfl, rfl⟩ := trodVars_none hV
  obtain ⟨k0, n0, s0, x0, y0, rfl, rfl, rfl, wk0, wn0, ws0, wx0, wy0⟩ := Va.val_of (hval 0 25 v0 rfl rfl) h0
  obtain ⟨a1, rfl, rfl, rfl, w1⟩ := open_string Tryd.underlying9 (hval 1 9 v1 rfl rfl) h1
  have hT : Ov.Tab W := by
    rw [MakeChecks.laidMetH_plain _ _ _ (by kernel_rfl)] at hL
    exact Ov.tab_met (d := Rows.laid_internal_strconv_uint64pow10) rfl (by simp [Rows.valueBackRow]) hL
  clear hA0 hval0
  simp only [List.append_nil] at hW'
  refine (walk k0 n0 s0 x0 y0 a1 wk0 wn0 ws0 wx0 wy0 w1 W hT).mono fun e W' ⟨he, bel⟩ => ?_
  subst he
  exact ⟨_, rfl, _, _, _, [], _, [], hW', trodAll_mk1 (shut_bool Tryd.underlying4 _), (trodAll_cons_mk (Va.shut_val wk0 wn0 ws0 wx0 wy0) (trodAll_cons_mk (shut_string Tryd.underlying9 w1) trodAll_mk0)), rfl, bel.frame _, fun h => by cases h⟩

theorem over : Rows.ValueBackSaid :=
  OpenClaim.holds_of_wide 3 Tryd.f3 rfl rfl rfl rfl rfl rfl rfl ⟨rfl, rfl, rfl, rfl, rfl⟩ rfl rfl rfl rfl rfl (by kernel_rfl) Tryd.func3 (by kernel_rfl)
    (of_decide_eq_true (by kernel_rfl)) (by unfold Func.isWrapper; first | (rw [if_pos (by decide +kernel)]; kernel_rfl) | (rw [if_neg (by decide +kernel)]; exact ⟨rfl, rfl⟩))
    (fun os started H enc _ => lifted os started H enc)

/-- ████ THE STATEMENT: THE TIED CARD ████ -/
theorem proved : Rows.ValueBackCardSaid :=
  Claim7.holds_tied_plain_at .later [] [.data, .data, .data] true (true, "6db8aa37df9c87ca66d062f18688740b9336714075edfda8a8596ccb129de9d6") false
    over (fun _ h => by cases h) (by kernel_rfl) (fun _ h => by cases h) valueBack_row_tie rfl ⟨rfl, rfl⟩ (by kernel_rfl) rfl
    (fun f fn hf hfn => by
      obtain rfl : f = 3 := Option.some.inj ((show Tryd.prog.funcNamed "stook/stooklaw07.ValueBack" = some 3 by kernel_rfl).symm.trans hf) |>.symm
      obtain rfl : fn = Tryd.f3 := (Option.some.inj (Tryd.func3.symm.trans hfn)).symm
      exact ⟨by kernel_rfl, fun j t ht => by
        rw [Tryd.params3] at ht
        have hm : t ∈ [25, 9] := by simpa using Array.mem_of_getElem? ht
        have hall : ([25, 9].all fun u => !Tryd.prog.wantsStandIn u) = true := by kernel_rfl
        exact (show Tryd.prog.wantsStandIn t = false by simpa using List.all_eq_true.1 hall t hm)⟩)
    (by kernel_rfl)
#print axioms proved
end Go.Proofs.YtpickeicchmhnaaDoor.valueBack
