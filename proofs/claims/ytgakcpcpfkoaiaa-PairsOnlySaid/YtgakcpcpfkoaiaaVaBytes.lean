/-
  A value's bytes.
-/
import Derived.Test.YtgakcpcpfkoaiaaVaRight
import Derived.Test.YtgakcpcpfkoaiaaTpNum
namespace Go.Proofs.Ytgakcpcpfkoaiaa.Va
open Go.ChangeShapes Go.WideShapes Go.ChangeAt Go.RowKit Go.Proofs.Ytgakcpcpfkoaiaa.Ov Go.Proofs.Ytgakcpcpfkoaiaa.Ga Go.Proofs.Ytgakcpcpfkoaiaa.Tp

theorem bits_and_27 (n : Int) : bits .and .i64 n 134217727 = n % 134217728 := by
  show IntKind.i64.wrap ((BitVec.ofInt 64 n &&& BitVec.ofInt 64 134217727).toNat : Int) = _
  rw [BitVec.toNat_and, BitVec.toNat_ofInt, BitVec.toNat_ofInt]
  have e1 : ((134217727 : Int) % ((2 ^ 64 : Nat) : Int)).toNat = 2 ^ 27 - 1 := by decide
  rw [e1, Nat.and_two_pow_sub_one_eq_mod]
  have e2 : (((n % ((2 ^ 64 : Nat) : Int)).toNat % 2 ^ 27 : Nat) : Int) = n % 134217728 := by omega
  rw [e2, IntWalk.i64_in _ (by omega)]
theorem nv_small {k : Int} (h0 : 0 ≤ k) (h1 : k ≤ 127) : (tx (nv k)).size = 1 := by
  unfold nv; rw [if_neg (by omega), nb_lt (by omega), tx_size]; rfl
theorem wv_le (n : Int) : (tx (wv n)).size ≤ 8 := by
  unfold wv; split
  · rw [tx_size]; exact Nat.zero_le _
  · rw [tx_size]; exact nb_len8 (wn_le (by omega) (by omega))
set_option maxHeartbeats 1000000 in
theorem bytes_no {k n x y : Int} {s : ByteArray} (h : rt ⟨k, n, s.data.toList, x, y⟩ = false) (w : World) : Calls Try.prog 22 #[.agg #[.int .i64 k, .int .i64 n, .string s, .int .i64 x, .int .i64 y]] w (Gives (.string ⟨#[]⟩) w) := by
  have HR := Lib.hid (right_val k n x y s); rw [h] at HR; clear h
  go_enter Try.func22, Try.ntmps22
  go_wp2_with (fail)
  have kb := box1 w (.cells #[.int .i64 k, .int .i64 n, .string s, .int .i64 x, .int .i64 y] 42)
  have D := Blk.made w 42 (vcs k n s x y) rfl
  change Blk (w.alloc (.cells #[.int .i64 k, .int .i64 n, .string s, .int .i64 x, .int .i64 y] 42)) w.heap.size _ at D
  generalize w.alloc (.cells #[.int .i64 k, .int .i64 n, .string s, .int .i64 x, .int .i64 y] 42) = v at *
  refine (HR.out _).mono ?_
  rintro e w1 ⟨rfl, hb⟩
  have HB := Lib.hid (Below.next kb hb)
  have D1 := Lib.hid (D.next hb)
  clear hb kb D
  have c0 := D1.out.v0; have c1 := D1.out.v1; have c2 := D1.out.v2; have c3 := D1.out.v3; have c4 := D1.out.v4
  go_wp2_with (fail)
  go_ret
  exact ⟨rfl, HB.out⟩
set_option maxHeartbeats 1000000 in
theorem bytes_text {n x y : Int} {s : ByteArray} (h : rt ⟨1, n, s.data.toList, x, y⟩ = true) (w : World) : Calls Try.prog 22 #[.agg #[.int .i64 1, .int .i64 n, .string s, .int .i64 x, .int .i64 y]] w (Gives (.string (tx (vb ⟨1, n, s.data.toList, x, y⟩))) w) := by
  have hs : s.size ≤ 4096 := by
    have := rt_yes h
    simp at this; exact this.2.1
  have HR := Lib.hid (right_val 1 n x y s); rw [h] at HR; clear h
  have HK := Lib.hid (num_any 1)
  have HT := Lib.hid (fun w => Tp.text_any s w (by omega))
  have HE : Hid (tx (nv 1) ++ tx (nb s.size ++ s.data.toList) = tx (vb ⟨1, n, s.data.toList, x, y⟩)) := by
    show _ = _
    rw [tx_append, vb_text]
    have e : s.data.toList.length = s.size := by simp
    rw [e]; rfl
  have z1 : (tx (nv 1)).size = 1 := nv_small (by omega) (by omega)
  have z2 : (tx (nb s.size ++ s.data.toList)).size ≤ 5000 := by
    rw [tx_size, List.length_append]; have := nb_len8 (n := s.size) (by omega); simp; omega
  generalize tx (nv 1) = u at *
  generalize tx (nb s.size ++ s.data.toList) = t at *
  have hz : ¬ u.size + t.size > 9223372036854775807 := by omega
  clear hs z1 z2
  go_enter Try.func22, Try.ntmps22
  go_wp2_with (fail)
  have kb := box1 w (.cells #[.int .i64 1, .int .i64 n, .string s, .int .i64 x, .int .i64 y] 42)
  have D := Blk.made w 42 (vcs 1 n s x y) rfl
  change Blk (w.alloc (.cells #[.int .i64 1, .int .i64 n, .string s, .int .i64 x, .int .i64 y] 42)) w.heap.size _ at D
  generalize w.alloc (.cells #[.int .i64 1, .int .i64 n, .string s, .int .i64 x, .int .i64 y] 42) = v at *
  refine (HR.out _).mono ?_
  rintro e w1 ⟨rfl, hb⟩
  have HB := Lib.hid (Below.next kb hb)
  have D1 := Lib.hid (D.next hb)
  clear hb kb D
  have c0 := D1.out.v0; have c1 := D1.out.v1; have c2 := D1.out.v2; have c3 := D1.out.v3; have c4 := D1.out.v4
  go_wp2_with (fail)
  clear c0 c1 c2 c3 c4
  refine (HK.out _).mono ?_
  rintro e w2 ⟨rfl, hb⟩
  have HB2 := Lib.hid (Below.next HB.out hb)
  have D2 := Lib.hid (D1.out.next hb)
  clear hb
  have c0 := D2.out.v0; have c1 := D2.out.v1; have c2 := D2.out.v2; have c3 := D2.out.v3; have c4 := D2.out.v4
  go_wp2_with (fail)
  clear c0 c1 c2 c3 c4
  refine (HT.out _).mono ?_
  rintro e w3 ⟨rfl, hb⟩
  have HB3 := Lib.hid (Below.next HB2.out hb)
  clear hb
  go_wp2_with (fail)
  go_ret
  exact ⟨ret_str HE.out, HB3.out⟩
set_option maxHeartbeats 2000000 in
theorem bytes_point {n x y : Int} {s : ByteArray} (h : rt ⟨2, n, s.data.toList, x, y⟩ = true) (w : World) : Calls Try.prog 22 #[.agg #[.int .i64 2, .int .i64 n, .string s, .int .i64 x, .int .i64 y]] w (Gives (.string (tx (vb ⟨2, n, s.data.toList, x, y⟩))) w) := by
  have hr := rb_xy (by rw [rt_point, Bool.and_eq_true] at h; exact h.2 : rb ⟨x, y⟩ = true)
  have HR := Lib.hid (right_val 2 n x y s); rw [h] at HR; clear h
  have HK := Lib.hid (num_any 2)
  have HA := Lib.hid (whole_any x)
  have HC := Lib.hid (whole_any y)
  have HE : Hid (tx (nv 2) ++ tx (wv x) ++ tx (wv y) = tx (vb ⟨2, n, s.data.toList, x, y⟩)) := by
    show _ = _
    rw [tx_append, tx_append, vb_point]
    unfold wv; rw [if_neg (by omega), if_neg (by omega)]; rfl
  have z1 : (tx (nv 2)).size = 1 := nv_small (by omega) (by omega)
  have z2 := wv_le x
  have z3 := wv_le y
  generalize tx (nv 2) = u at *
  generalize tx (wv x) = a at *
  generalize tx (wv y) = b at *
  have g1 : ¬ u.size + a.size > 9223372036854775807 := by omega
  have g2 : ¬ u.size + a.size + b.size > 9223372036854775807 := by omega
  clear z1 z2 z3 hr
  go_enter Try.func22, Try.ntmps22
  go_wp2_with (fail)
  have kb := box1 w (.cells #[.int .i64 2, .int .i64 n, .string s, .int .i64 x, .int .i64 y] 42)
  have D := Blk.made w 42 (vcs 2 n s x y) rfl
  change Blk (w.alloc (.cells #[.int .i64 2, .int .i64 n, .string s, .int .i64 x, .int .i64 y] 42)) w.heap.size _ at D
  generalize w.alloc (.cells #[.int .i64 2, .int .i64 n, .string s, .int .i64 x, .int .i64 y] 42) = v at *
  refine (HR.out _).mono ?_
  rintro e w1 ⟨rfl, hb⟩
  have HB := Lib.hid (Below.next kb hb)
  have D1 := Lib.hid (D.next hb)
  clear hb kb D
  have c0 := D1.out.v0; have c1 := D1.out.v1; have c2 := D1.out.v2; have c3 := D1.out.v3; have c4 := D1.out.v4
  go_wp2_with (fail)
  clear c0 c1 c2 c3 c4
  refine (HK.out _).mono ?_
  rintro e w2 ⟨rfl, hb⟩
  have HB2 := Lib.hid (Below.next HB.out hb)
  have D2 := D1.out.next hb
  clear hb
  have c0 := D2.v0; have c1 := D2.v1; have c2 := D2.v2; have c3 := D2.v3; have c4 := D2.v4
  go_wp2_with (fail)
  clear c0 c1 c2 c3 c4
  have k0 := fun r : Over w2 => (D2.over r).v0
  have k1 := fun r : Over w2 => (D2.over r).v1
  have k3 := fun r : Over w2 => (D2.over r).v3
  have k4 := fun r : Over w2 => (D2.over r).v4
  clear D2
  refine wp_over (by kernel_rfl) (by kernel_rfl) ?_
  repeat (go_big_quiet_step (first | fail | with_reducible exact over_gives _ (HA.out _) | with_reducible exact over_gives _ (HC.out _)))
  refine wpQuiet_nil ?_
  rintro w3 ⟨⟨w3, hb⟩, rfl⟩
  have HB3 := Lib.hid (Below.next HB2.out hb)
  clear hb k0 k1 k3 k4
  go_wp2_with (fail)
  go_ret
  exact ⟨ret_str HE.out, HB3.out⟩
set_option maxHeartbeats 2000000 in
theorem bytes_int {n x y : Int} {s : ByteArray} (h : rt ⟨0, n, s.data.toList, x, y⟩ = true) (w : World) : Calls Try.prog 22 #[.agg #[.int .i64 0, .int .i64 n, .string s, .int .i64 x, .int .i64 y]] w (Gives (.string (tx (vb ⟨0, n, s.data.toList, x, y⟩))) w) := by
  have hr : -9007199254740992 ≤ n ∧ n ≤ 9007199254740992 := by
    rw [rt_int, Bool.and_eq_true, Bool.and_eq_true, decide_eq_true_eq, decide_eq_true_eq] at h; exact h.2
  have HR := Lib.hid (right_val 0 n x y s); rw [h] at HR; clear h
  have HK := Lib.hid (num_any 0)
  have HA := Lib.hid (whole_any (n / 134217728))
  have HC := Lib.hid (num_any (n % 134217728))
  have HE : Hid (tx (nv 0) ++ tx (wv (n / 134217728)) ++ tx (nv (n % 134217728)) = tx (vb ⟨0, n, s.data.toList, x, y⟩)) := by
    show _ = _
    rw [tx_append, tx_append, vb_int]
    unfold wv nv; rw [if_neg (by omega), if_neg (by omega), if_neg (by omega)]; rfl
  have z1 : (tx (nv 0)).size = 1 := nv_small (by omega) (by omega)
  have z2 := wv_le (n / 134217728)
  have z3 : (tx (nv (n % 134217728))).size ≤ 8 := by
    unfold nv; rw [if_neg (by omega), tx_size]; exact nb_len8 (by omega)
  have hm := bits_and_27 n
  have hs : n / 2 ^ 27 = n / 134217728 := rfl
  generalize tx (nv 0) = u at *
  generalize tx (wv (n / 134217728)) = a at *
  generalize tx (nv (n % 134217728)) = b at *
  have g1 : ¬ u.size + a.size > 9223372036854775807 := by omega
  have g2 : ¬ u.size + a.size + b.size > 9223372036854775807 := by omega
  clear z1 z2 z3 hr
  go_enter Try.func22, Try.ntmps22
  go_wp2_with (fail)
  have kb := box1 w (.cells #[.int .i64 0, .int .i64 n, .string s, .int .i64 x, .int .i64 y] 42)
  have D := Blk.made w 42 (vcs 0 n s x y) rfl
  change Blk (w.alloc (.cells #[.int .i64 0, .int .i64 n, .string s, .int .i64 x, .int .i64 y] 42)) w.heap.size _ at D
  generalize w.alloc (.cells #[.int .i64 0, .int .i64 n, .string s, .int .i64 x, .int .i64 y] 42) = v at *
  refine (HR.out _).mono ?_
  rintro e w1 ⟨rfl, hb⟩
  have HB := Lib.hid (Below.next kb hb)
  have D1 := Lib.hid (D.next hb)
  clear hb kb D
  have c0 := D1.out.v0; have c1 := D1.out.v1; have c2 := D1.out.v2; have c3 := D1.out.v3; have c4 := D1.out.v4
  go_wp2_with (fail)
  clear c0 c1 c2 c3 c4
  refine (HK.out _).mono ?_
  rintro e w2 ⟨rfl, hb⟩
  have HB2 := Lib.hid (Below.next HB.out hb)
  have D2 := D1.out.next hb
  clear hb
  have c0 := D2.v0; have c1 := D2.v1; have c2 := D2.v2; have c3 := D2.v3; have c4 := D2.v4
  go_wp2_with (fail)
  clear c0 c1 c2 c3 c4
  have k0 := fun r : Over w2 => (D2.over r).v0
  have k1 := fun r : Over w2 => (D2.over r).v1
  have k3 := fun r : Over w2 => (D2.over r).v3
  have k4 := fun r : Over w2 => (D2.over r).v4
  clear D2
  refine wp_over (by kernel_rfl) (by kernel_rfl) ?_
  repeat (go_big_quiet_step (first | fail | with_reducible exact over_gives _ (HA.out _) | with_reducible exact over_gives _ (HC.out _)))
  refine wpQuiet_nil ?_
  rintro w3 ⟨⟨w3, hb⟩, rfl⟩
  have HB3 := Lib.hid (Below.next HB2.out hb)
  clear hb k0 k1 k3 k4
  go_wp2_with (fail)
  go_ret
  exact ⟨ret_str HE.out, HB3.out⟩
theorem bytes_yes {k n x y : Int} {s : ByteArray} (h : rt ⟨k, n, s.data.toList, x, y⟩ = true) (w : World) : Calls Try.prog 22 #[.agg #[.int .i64 k, .int .i64 n, .string s, .int .i64 x, .int .i64 y]] w (Gives (.string (tx (vb ⟨k, n, s.data.toList, x, y⟩))) w) := by
  by_cases h0 : k = 0
  · subst h0; exact bytes_int h w
  by_cases h1 : k = 1
  · subst h1; exact bytes_text h w
  by_cases h2 : k = 2
  · subst h2; exact bytes_point h w
  rw [rt_kind n x y _ h0 h1 h2] at h; cases h
end Go.Proofs.Ytgakcpcpfkoaiaa.Va
