/-
  How a value is written.
-/
import Derived.Test.YtpickeicchmhnaaDoorVaRight
import Derived.Test.YtpickeicchmhnaaDoorVaWrite
import Derived.Test.YtpickeicchmhnaaDoorOvTab
namespace Go.Proofs.YtpickeicchmhnaaDoor.Va
open Go.ChangeShapes Go.WideShapes Go.ChangeAt Go.RowKit Go.Proofs.YtpickeicchmhnaaDoor.Ov Go.Proofs.YtpickeicchmhnaaDoor.Ga Go.Proofs.YtpickeicchmhnaaDoor.Tp

set_option maxHeartbeats 1000000 in
theorem write_no {k n x y : Int} {s : ByteArray} (h : rt ⟨k, n, s.data.toList, x, y⟩ = false) (w : World) : Calls Tryd.prog 12 #[.agg #[.int .i64 k, .int .i64 n, .string s, .int .i64 x, .int .i64 y]] w (Gives (.string ⟨#[]⟩) w) := by
  have HR := Lib.hid (right_val k n x y s); rw [h] at HR; clear h
  go_enter Tryd.func12, Tryd.ntmps12
  go_wp2_with (fail)
  have kb := box1 w (.cells #[.int .i64 k, .int .i64 n, .string s, .int .i64 x, .int .i64 y] 25)
  have D := Blk.made w 25 (vcs k n s x y) rfl
  change Blk (w.alloc (.cells #[.int .i64 k, .int .i64 n, .string s, .int .i64 x, .int .i64 y] 25)) w.heap.size _ at D
  generalize w.alloc (.cells #[.int .i64 k, .int .i64 n, .string s, .int .i64 x, .int .i64 y] 25) = v at *
  refine (HR.out _).mono ?_
  rintro e w1 ⟨rfl, hb⟩
  have HB := Lib.hid (Below.next kb hb)
  have D1 := Lib.hid (D.next hb)
  clear hb kb D
  have c0 := D1.out.v0; have c1 := D1.out.v1; have c2 := D1.out.v2; have c3 := D1.out.v3; have c4 := D1.out.v4
  go_wp2_with (fail)
  go_ret
  exact ⟨rfl, HB.out⟩
set_option maxHeartbeats 1000000 in
theorem write_text {n x y : Int} {s : ByteArray} (h : rt ⟨1, n, s.data.toList, x, y⟩ = true) (w : World) : Calls Tryd.prog 12 #[.agg #[.int .i64 1, .int .i64 n, .string s, .int .i64 x, .int .i64 y]] w (Gives (.string (tx (wr ⟨1, n, s.data.toList, x, y⟩))) w) := by
  have hs : s.size ≤ 4096 := by
    have := rt_yes h
    simp at this; exact this.2.1
  have HR := Lib.hid (right_val 1 n x y s); rw [h] at HR; clear h
  have HT := Lib.hid (fun w => writeText_any s w hs)
  rw [wr_text]
  generalize tx (34 :: (esc s.data.toList ++ [34])) = t at *
  go_enter Tryd.func12, Tryd.ntmps12
  go_wp2_with (fail)
  have kb := box1 w (.cells #[.int .i64 1, .int .i64 n, .string s, .int .i64 x, .int .i64 y] 25)
  have D := Blk.made w 25 (vcs 1 n s x y) rfl
  change Blk (w.alloc (.cells #[.int .i64 1, .int .i64 n, .string s, .int .i64 x, .int .i64 y] 25)) w.heap.size _ at D
  generalize w.alloc (.cells #[.int .i64 1, .int .i64 n, .string s, .int .i64 x, .int .i64 y] 25) = v at *
  refine (HR.out _).mono ?_
  rintro e w1 ⟨rfl, hb⟩
  have HB := Lib.hid (Below.next kb hb)
  have D1 := Lib.hid (D.next hb)
  clear hb kb D
  have c0 := D1.out.v0; have c1 := D1.out.v1; have c2 := D1.out.v2; have c3 := D1.out.v3; have c4 := D1.out.v4
  go_wp2_with (fail)
  clear c0 c1 c2 c3 c4
  refine (HT.out _).mono ?_
  rintro e w2 ⟨rfl, hb⟩
  have HB2 := Lib.hid (Below.next HB.out hb)
  clear hb
  go_wp2_with (fail)
  go_ret
  exact ⟨rfl, HB2.out⟩
theorem itoa_le (n : Int) (h : -9007199254740992 ≤ n ∧ n ≤ 9007199254740992) : (tx (Lib.itoa n)).size ≤ 21 := by
  rw [tx_size]; exact Lib.itoa_length_le n (by omega) (by omega)
set_option maxHeartbeats 1000000 in
theorem write_int {n x y : Int} {s : ByteArray} (h : rt ⟨0, n, s.data.toList, x, y⟩ = true) (w : World) (ht : Tab w) : Calls Tryd.prog 12 #[.agg #[.int .i64 0, .int .i64 n, .string s, .int .i64 x, .int .i64 y]] w (Gives (.string (tx (wr ⟨0, n, s.data.toList, x, y⟩))) w) := by
  have hr : -9007199254740992 ≤ n ∧ n ≤ 9007199254740992 := by
    rw [rt_int, Bool.and_eq_true, Bool.and_eq_true, decide_eq_true_eq, decide_eq_true_eq] at h; exact h.2
  have HR := Lib.hid (right_val 0 n x y s); rw [h] at HR; clear h
  have HT := Lib.hid ht; clear ht
  have HI := Lib.hid (itoa_any n (by omega) (by omega))
  clear hr
  rw [wr_int]
  generalize tx (Lib.itoa n) = t at *
  go_enter Tryd.func12, Tryd.ntmps12
  go_wp2_with (fail)
  have kb := box1 w (.cells #[.int .i64 0, .int .i64 n, .string s, .int .i64 x, .int .i64 y] 25)
  have D := Blk.made w 25 (vcs 0 n s x y) rfl
  change Blk (w.alloc (.cells #[.int .i64 0, .int .i64 n, .string s, .int .i64 x, .int .i64 y] 25)) w.heap.size _ at D
  generalize w.alloc (.cells #[.int .i64 0, .int .i64 n, .string s, .int .i64 x, .int .i64 y] 25) = v at *
  refine (HR.out _).mono ?_
  rintro e w1 ⟨rfl, hb⟩
  have HB := Lib.hid (Below.next kb hb)
  have D1 := Lib.hid (D.next hb)
  clear hb kb D
  have c0 := D1.out.v0; have c1 := D1.out.v1; have c2 := D1.out.v2; have c3 := D1.out.v3; have c4 := D1.out.v4
  go_wp2_with (fail)
  clear c0 c1 c2 c3 c4
  refine (HI.out _ (HT.out.next HB.out)).mono ?_
  rintro e w2 ⟨rfl, hb⟩
  have HB2 := Lib.hid (Below.next HB.out hb)
  clear hb
  go_wp2_with (fail)
  go_ret
  exact ⟨rfl, HB2.out⟩
set_option maxHeartbeats 1000000 in
theorem write_point {n x y : Int} {s : ByteArray} (h : rt ⟨2, n, s.data.toList, x, y⟩ = true) (w : World) (ht : Tab w) : Calls Tryd.prog 12 #[.agg #[.int .i64 2, .int .i64 n, .string s, .int .i64 x, .int .i64 y]] w (Gives (.string (tx (wr ⟨2, n, s.data.toList, x, y⟩))) w) := by
  have hr := rb_xy (by rw [rt_point, Bool.and_eq_true] at h; exact h.2 : rb ⟨x, y⟩ = true)
  have HR := Lib.hid (right_val 2 n x y s); rw [h] at HR; clear h
  have HT := Lib.hid ht; clear ht
  have HA := Lib.hid (itoa_any x (by omega) (by omega))
  have HC := Lib.hid (itoa_any y (by omega) (by omega))
  have z2 := itoa_le x (by omega)
  have z3 := itoa_le y (by omega)
  clear hr
  have HE : Hid (tx (Lib.itoa x) ++ ⟨#[58]⟩ ++ tx (Lib.itoa y) = tx (wr ⟨2, n, s.data.toList, x, y⟩)) := by
    show _ = _
    rw [wr_point, show (⟨#[58]⟩ : ByteArray) = tx [58] from rfl, tx_append, tx_append]
  generalize tx (Lib.itoa x) = a at *
  generalize tx (Lib.itoa y) = b at *
  have g1 : ¬ a.size + 1 > 9223372036854775807 := by omega
  have g2 : ¬ a.size + 1 + b.size > 9223372036854775807 := by omega
  clear z2 z3
  go_enter Tryd.func12, Tryd.ntmps12
  go_wp2_with (fail)
  have kb := box1 w (.cells #[.int .i64 2, .int .i64 n, .string s, .int .i64 x, .int .i64 y] 25)
  have D := Blk.made w 25 (vcs 2 n s x y) rfl
  change Blk (w.alloc (.cells #[.int .i64 2, .int .i64 n, .string s, .int .i64 x, .int .i64 y] 25)) w.heap.size _ at D
  generalize w.alloc (.cells #[.int .i64 2, .int .i64 n, .string s, .int .i64 x, .int .i64 y] 25) = v at *
  refine (HR.out _).mono ?_
  rintro e w1 ⟨rfl, hb⟩
  have HB := Lib.hid (Below.next kb hb)
  have D1 := Lib.hid (D.next hb)
  clear hb kb D
  have c0 := D1.out.v0; have c1 := D1.out.v1; have c2 := D1.out.v2; have c3 := D1.out.v3; have c4 := D1.out.v4
  go_wp2_with (fail)
  clear c0 c1 c2 c3 c4
  have KA := Lib.hid (fun q : Over w1 => HA.out q.val ((HT.out.next HB.out).next q.property))
  have KC := Lib.hid (fun q : Over w1 => HC.out q.val ((HT.out.next HB.out).next q.property))
  have D2 := D1.out
  have k3 := fun r : Over w1 => (D2.over r).v3
  have k4 := fun r : Over w1 => (D2.over r).v4
  clear D2
  refine wp_over (by kernel_rfl) (by kernel_rfl) ?_
  repeat (go_big_quiet_step (first | fail | with_reducible exact over_gives _ (KA.out _) | with_reducible exact over_gives _ (KC.out _)))
  refine wpQuiet_nil ?_
  rintro w3 ⟨⟨w3, hb⟩, rfl⟩
  have HB3 := Lib.hid (Below.next HB.out hb)
  clear hb k3 k4
  go_wp2_with (fail)
  go_ret
  exact ⟨ret_str HE.out, HB3.out⟩
theorem write_yes {k n x y : Int} {s : ByteArray} (h : rt ⟨k, n, s.data.toList, x, y⟩ = true) (w : World) (ht : Tab w) : Calls Tryd.prog 12 #[.agg #[.int .i64 k, .int .i64 n, .string s, .int .i64 x, .int .i64 y]] w (Gives (.string (tx (wr ⟨k, n, s.data.toList, x, y⟩))) w) := by
  by_cases h0 : k = 0
  · subst h0; exact write_int h w ht
  by_cases h1 : k = 1
  · subst h1; exact write_text h w
  by_cases h2 : k = 2
  · subst h2; exact write_point h w ht
  rw [rt_kind n x y _ h0 h1 h2] at h; cases h
end Go.Proofs.YtpickeicchmhnaaDoor.Va
