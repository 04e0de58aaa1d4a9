/-
  The document's answers for layer 7: Dec, hex, plain, Bytes, Write (written by gen_varef2.py).
-/
import Derived.Test.YtpickeicchmhnaaDoorVaRef
import Derived.Test.YtpickeicchmhnaaDoorVaBytes
import Derived.Test.YtpickeicchmhnaaDoorVaWrite2
import Derived.Test.YtpickeicchmhnaaDoorTpRef
namespace Go.Proofs.YtpickeicchmhnaaDoor.Va
open Go.ChangeShapes Go.WideShapes Go.ChangeAt Go.RowKit Go.Proofs.YtpickeicchmhnaaDoor.Ov Go.Proofs.YtpickeicchmhnaaDoor.Ga Go.Proofs.YtpickeicchmhnaaDoor.Tp

theorem rplain_any (c : UInt8) (w : World) : Calls Tryd.prog 44 #[.int .u8 (c.toNat : Int)] w fun e w' => e = .returned (.bool (pl c)) ∧ w = w' := by
  obtain ⟨m, hm⟩ : ∃ m : Nat, m = c.toNat := ⟨_, rfl⟩
  have he : pl c = decide (32 ≤ m ∧ m ≤ 126 ∧ m ≠ 34 ∧ m ≠ 92) := by rw [hm]; rfl
  have hlt := c.toNat_lt
  rw [he, ← hm]
  rw [← hm] at hlt
  clear he hm
  by_cases h1 : 32 ≤ m
  · by_cases h2 : m ≤ 126
    · by_cases h3 : m = 34
      · subst h3
        go_enter Tryd.func44, Tryd.ntmps44
        go_wp2_with (fail)
        go_ret
        exact ⟨rfl, rfl⟩
      · have n3 : ((m : Int) != 34) = true := by rw [bne_iff_ne]; omega
        by_cases h4 : m = 92
        · subst h4
          go_enter Tryd.func44, Tryd.ntmps44
          go_wp2_with (fail)
          go_ret
          exact ⟨rfl, rfl⟩
        · have n4 : ((m : Int) != 92) = true := by rw [bne_iff_ne]; omega
          have he : decide (32 ≤ m ∧ m ≤ 126 ∧ m ≠ 34 ∧ m ≠ 92) = true := decide_eq_true ⟨h1, h2, h3, h4⟩
          rw [he]; clear he h3 h4
          go_enter Tryd.func44, Tryd.ntmps44
          go_wp2_with (fail)
          go_ret
          exact ⟨rfl, rfl⟩
    · have he : decide (32 ≤ m ∧ m ≤ 126 ∧ m ≠ 34 ∧ m ≠ 92) = false := decide_eq_false (by omega)
      rw [he]; clear he
      go_enter Tryd.func44, Tryd.ntmps44
      go_wp2_with (fail)
      go_ret
      exact ⟨rfl, rfl⟩
  · have he : decide (32 ≤ m ∧ m ≤ 126 ∧ m ≠ 34 ∧ m ≠ 92) = false := decide_eq_false (by omega)
    rw [he]; clear he
    go_enter Tryd.func44, Tryd.ntmps44
    go_wp2_with (fail)
    go_ret
    exact ⟨rfl, rfl⟩
set_option maxRecDepth 100000 in
theorem rhex_any (n : Nat) (w : World) (hn : n < 16) : Calls Tryd.prog 45 #[.int .i64 (n : Int)] w (Gives (.string (tx [hx n])) w) := by
  by_cases h : n < 10
  · have HE : Hid (tx [UInt8.ofNat (48 + n)] = tx [hx n]) := by show _ = _; unfold hx; rw [if_pos h]
    have hcv := one_text (w.alloc (.cells #[.int .u8 (48 + (n : Int))] 5)) w.heap.size (48 + n) (by omega) (by simp)
    obtain ⟨c, hc⟩ : ∃ c, UInt8.ofNat (48 + n) = c := ⟨_, rfl⟩
    rw [hc] at hcv HE; clear hc
    go_enter Tryd.func45, Tryd.ntmps45
    go_wp2_with (fail)
    go_ret
    exact ⟨ret_str HE.out, box1 w _⟩
  · have HE : Hid (tx [UInt8.ofNat (87 + n)] = tx [hx n]) := by show _ = _; unfold hx; rw [if_neg h]
    have hcv := one_text (w.alloc (.cells #[.int .u8 (97 + (n : Int) - 10)] 5)) w.heap.size (87 + n) (by omega) (by simp; omega)
    obtain ⟨c, hc⟩ : ∃ c, UInt8.ofNat (87 + n) = c := ⟨_, rfl⟩
    rw [hc] at hcv HE; clear hc
    go_enter Tryd.func45, Tryd.ntmps45
    go_wp2_with (fail)
    go_ret
    exact ⟨ret_str HE.out, box1 w _⟩
set_option maxRecDepth 100000 in
theorem rdec_small (n : Nat) (w : World) (hn : n < 10) : Calls Tryd.prog 43 #[.int .i64 (n : Int)] w (Gives (.string (tx (Lib.decDigits n))) w) := by
  have HE : Hid (tx [UInt8.ofNat (48 + n)] = tx (Lib.decDigits n)) := by show _ = _; rw [dec_small hn]
  have hcv := one_text (w.alloc (.cells #[.int .u8 (48 + (n : Int))] 5)) w.heap.size (48 + n) (by omega) (by simp)
  obtain ⟨c, hc⟩ : ∃ c, UInt8.ofNat (48 + n) = c := ⟨_, rfl⟩
  rw [hc] at hcv HE; clear hc
  go_enter Tryd.func43, Tryd.ntmps43
  go_wp2_with (fail)
  go_ret
  exact ⟨ret_str HE.out, box1 w _⟩
theorem dec_le (n : Nat) (h : n ≤ 9007199254740992) : (tx (Lib.decDigits n)).size ≤ 21 := by
  have h1 := Lib.itoa_length_le (n : Int) (by omega) (by omega)
  have e : Lib.itoa (n : Int) = Lib.decDigits n := by unfold Lib.itoa; rw [if_neg (by omega)]; rfl
  rw [tx_size, ← e]; exact h1
set_option maxRecDepth 100000 in
set_option maxHeartbeats 1000000 in
theorem rdec_nat (n : Nat) : ∀ (w : World), n ≤ 9007199254740992 → Calls Tryd.prog 43 #[.int .i64 (n : Int)] w (Gives (.string (tx (Lib.decDigits n))) w) := by
  induction n using Nat.strongRecOn with
  | _ n ih =>
    intro w hn
    by_cases hlt : n < 10
    · exact rdec_small n w hlt
    have HA : Hid (∀ w, Calls Tryd.prog 43 #[.int .i64 ((n : Int) / 10)] w (Gives (.string (tx (Lib.decDigits (n / 10)))) w)) := fun w => by
      have h := ih (n / 10) (by omega) w (by omega)
      rwa [show ((n / 10 : Nat) : Int) = (n : Int) / 10 by omega] at h
    have HC : Hid (∀ w, Calls Tryd.prog 43 #[.int .i64 ((n : Int) % 10)] w (Gives (.string (tx (Lib.decDigits (n % 10)))) w)) := fun w => by
      have h := rdec_small (n % 10) w (by omega)
      rwa [show ((n % 10 : Nat) : Int) = (n : Int) % 10 by omega] at h
    have HE : Hid (tx (Lib.decDigits (n / 10)) ++ tx (Lib.decDigits (n % 10)) = tx (Lib.decDigits n)) := by
      show _ = _
      rw [tx_append, dec_big hlt, dec_small (m := n % 10) (by omega)]
    have z1 := dec_le (n / 10) (by omega)
    have z2 := dec_le (n % 10) (by omega)
    generalize tx (Lib.decDigits (n / 10)) = a at *
    generalize tx (Lib.decDigits (n % 10)) = b at *
    have g1 : ¬ a.size + b.size > 9223372036854775807 := by omega
    have l1 : ¬ (n : Int) < 0 := by omega
    have l2 : ¬ (n : Int) < 10 := by omega
    have l3 : (0 : Int) ≤ (n : Int) := by omega
    have l4 : (n : Int) ≤ 9007199254740992 := by omega
    clear z1 z2 ih hlt hn
    generalize (n : Int) = m at *
    go_enter Tryd.func43, Tryd.ntmps43
    go_wp2_with (fail)
    refine (HA.out _).mono ?_
    rintro e w1 ⟨rfl, hb⟩
    have HB := Lib.hid hb; clear hb
    go_wp2_with (fail)
    refine (HC.out _).mono ?_
    rintro e w2 ⟨rfl, hb⟩
    have HB2 := Lib.hid (Below.next HB.out hb); clear hb
    go_wp2_with (fail)
    go_ret
    exact ⟨ret_str HE.out, HB2.out⟩
set_option maxHeartbeats 1000000 in
theorem rdec_any (n : Int) (w : World) (h : -9007199254740992 ≤ n ∧ n ≤ 9007199254740992) : Calls Tryd.prog 43 #[.int .i64 n] w (Gives (.string (tx (Lib.itoa n))) w) := by
  obtain ⟨h1, h2⟩ := h
  by_cases h0 : n < 0
  · have HA : Hid (∀ w, Calls Tryd.prog 43 #[.int .i64 (-n)] w (Gives (.string (tx (Lib.decDigits n.natAbs))) w)) := fun w => by
      have h := rdec_nat n.natAbs w (by omega)
      rwa [show ((n.natAbs : Nat) : Int) = -n by omega] at h
    have HE : Hid (⟨#[45]⟩ ++ tx (Lib.decDigits n.natAbs) = tx (Lib.itoa n)) := by
      show _ = _
      unfold Lib.itoa; rw [if_pos h0, show (⟨#[45]⟩ : ByteArray) = tx [45] from rfl, tx_append]; rfl
    have z := dec_le n.natAbs (by omega)
    generalize tx (Lib.decDigits n.natAbs) = a at *
    have g1 : ¬ 1 + a.size > 9223372036854775807 := by omega
    clear z
    go_enter Tryd.func43, Tryd.ntmps43
    go_wp2_with (fail)
    refine (HA.out _).mono ?_
    rintro e w1 ⟨rfl, hb⟩
    have HB := Lib.hid hb; clear hb
    go_wp2_with (fail)
    go_ret
    exact ⟨ret_str HE.out, HB.out⟩
  · have h := rdec_nat n.toNat w (by omega)
    rw [show ((n.toNat : Nat) : Int) = n by omega] at h
    have e : Lib.itoa n = Lib.decDigits n.toNat := by unfold Lib.itoa; rw [if_neg h0]
    rw [e]; exact h
set_option maxHeartbeats 2000000 in
theorem rbytes_text {n x y : Int} {s : ByteArray} (h : rt ⟨1, n, s.data.toList, x, y⟩ = true) (w : World) : Calls Tryd.prog 17 #[.agg #[.int .i64 1, .int .i64 n, .string s, .int .i64 x, .int .i64 y]] w (Gives (.string (tx (vb ⟨1, n, s.data.toList, x, y⟩))) w) := by
  have hs : s.size ≤ 4096 := by
    have := (rt_text_in h).1
    simpa using this
  clear h
  have HK := Lib.hid (rnum_any 1)
  have HT := Lib.hid (fun w => rtext_any s w (by omega))
  have HE : Hid (tx (nv 1) ++ tx (nb s.size ++ s.data.toList) = tx (vb ⟨1, n, s.data.toList, x, y⟩)) := by
    show _ = _
    rw [tx_append, vb_text]
    have e : s.data.toList.length = s.size := by simp
    rw [e]; rfl
  have z1 : (tx (nv 1)).size = 1 := nv_small (by omega) (by omega)
  have z2 : (tx (nb s.size ++ s.data.toList)).size ≤ 5000 := by
    rw [tx_size, List.length_append]; have := nb_len8 (n := s.size) (by omega); simp; omega
  generalize tx (nv 1) = u at *
  generalize tx (nb s.size ++ s.data.toList) = t at *
  have hz : ¬ u.size + t.size > 9223372036854775807 := by omega
  clear hs z1 z2
  go_enter Tryd.func17, Tryd.ntmps17
  go_wp2_with (fail)
  have kb := box1 w (.cells #[.int .i64 1, .int .i64 n, .string s, .int .i64 x, .int .i64 y] 25)
  have D := Blk.made w 25 (vcs 1 n s x y) rfl
  change Blk (w.alloc (.cells #[.int .i64 1, .int .i64 n, .string s, .int .i64 x, .int .i64 y] 25)) w.heap.size _ at D
  generalize w.alloc (.cells #[.int .i64 1, .int .i64 n, .string s, .int .i64 x, .int .i64 y] 25) = v at *
  refine (HK.out _).mono ?_
  rintro e w1 ⟨rfl, hb⟩
  have HB := Lib.hid (Below.next kb hb)
  have D1 := D.next hb
  have DH := Lib.hid D1
  have d0 := D1.v0; have d1 := D1.v1; have d2 := D1.v2; have d3 := D1.v3; have d4 := D1.v4
  clear hb kb D D1
  go_wp2_with (fail)
  clear d0 d1 d2 d3 d4
  refine (HT.out _).mono ?_
  rintro e w3 ⟨rfl, hb⟩
  have HB3 := Lib.hid (Below.next HB.out hb)
  clear hb
  go_wp2_with (fail)
  go_ret
  exact ⟨ret_str HE.out, HB3.out⟩
set_option maxHeartbeats 2000000 in
theorem rbytes_point {n x y : Int} {s : ByteArray} (h : rt ⟨2, n, s.data.toList, x, y⟩ = true) (w : World) : Calls Tryd.prog 17 #[.agg #[.int .i64 2, .int .i64 n, .string s, .int .i64 x, .int .i64 y]] w (Gives (.string (tx (vb ⟨2, n, s.data.toList, x, y⟩))) w) := by
  have hr := (rt_point_in h).1
  clear h
  have HK := Lib.hid (rnum_any 2)
  have HA := Lib.hid (rwhole_any x)
  have HC := Lib.hid (rwhole_any y)
  have HE : Hid (tx (nv 2) ++ tx (wv x) ++ tx (wv y) = tx (vb ⟨2, n, s.data.toList, x, y⟩)) := by
    show _ = _
    rw [tx_append, tx_append, vb_point]
    unfold wv; rw [if_neg (by omega), if_neg (by omega)]; rfl
  have z1 : (tx (nv 2)).size = 1 := nv_small (by omega) (by omega)
  have z2 := wv_le x
  have z3 := wv_le y
  generalize tx (nv 2) = u at *
  generalize tx (wv x) = a at *
  generalize tx (wv y) = b at *
  have g1 : ¬ u.size + a.size > 9223372036854775807 := by omega
  have g2 : ¬ u.size + a.size + b.size > 9223372036854775807 := by omega
  clear z1 z2 z3 hr
  go_enter Tryd.func17, Tryd.ntmps17
  go_wp2_with (fail)
  have kb := box1 w (.cells #[.int .i64 2, .int .i64 n, .string s, .int .i64 x, .int .i64 y] 25)
  have D := Blk.made w 25 (vcs 2 n s x y) rfl
  change Blk (w.alloc (.cells #[.int .i64 2, .int .i64 n, .string s, .int .i64 x, .int .i64 y] 25)) w.heap.size _ at D
  generalize w.alloc (.cells #[.int .i64 2, .int .i64 n, .string s, .int .i64 x, .int .i64 y] 25) = v at *
  refine (HK.out _).mono ?_
  rintro e w1 ⟨rfl, hb⟩
  have HB := Lib.hid (Below.next kb hb)
  have D1 := D.next hb
  have DH := Lib.hid D1
  have d0 := D1.v0; have d1 := D1.v1; have d2 := D1.v2; have d3 := D1.v3; have d4 := D1.v4
  clear hb kb D D1
  go_wp2_with (fail)
  clear d0 d1 d2 d3 d4
  have k0 := fun r : Over w1 => (DH.out.over r).v0
  have k1 := fun r : Over w1 => (DH.out.over r).v1
  have k3 := fun r : Over w1 => (DH.out.over r).v3
  have k4 := fun r : Over w1 => (DH.out.over r).v4
  refine wp_over (by kernel_rfl) (by kernel_rfl) ?_
  repeat (go_big_quiet_step (first | fail | with_reducible exact over_gives _ (HA.out _) | with_reducible exact over_gives _ (HC.out _)))
  refine wpQuiet_nil ?_
  rintro w3 ⟨⟨w3, hb⟩, rfl⟩
  have HB3 := Lib.hid (Below.next HB.out hb)
  clear hb k0 k1 k3 k4
  go_wp2_with (fail)
  go_ret
  exact ⟨ret_str HE.out, HB3.out⟩
set_option maxHeartbeats 2000000 in
theorem rbytes_int {n x y : Int} {s : ByteArray} (h : rt ⟨0, n, s.data.toList, x, y⟩ = true) (w : World) : Calls Tryd.prog 17 #[.agg #[.int .i64 0, .int .i64 n, .string s, .int .i64 x, .int .i64 y]] w (Gives (.string (tx (vb ⟨0, n, s.data.toList, x, y⟩))) w) := by
  have hr := (rt_int_in h).1
  clear h
  have HK := Lib.hid (rnum_any 0)
  obtain ⟨q, hq⟩ : ∃ q, n / 134217728 = q := ⟨_, rfl⟩
  obtain ⟨r, hrr⟩ : ∃ r, n % 134217728 = r := ⟨_, rfl⟩
  have HA := Lib.hid (rwhole_any q)
  have HC := Lib.hid (rnum_any r)
  have HE : Hid (tx (nv 0) ++ tx (wv q) ++ tx (nv r) = tx (vb ⟨0, n, s.data.toList, x, y⟩)) := by
    show _ = _
    rw [tx_append, tx_append, vb_int, hq, hrr]
    unfold wv nv; rw [if_neg (by omega), if_neg (by omega), if_neg (by omega)]; rfl
  have z1 : (tx (nv 0)).size = 1 := nv_small (by omega) (by omega)
  have z2 := wv_le q
  have z3 : (tx (nv r)).size ≤ 8 := by
    unfold nv; rw [if_neg (by omega), tx_size]; exact nb_len8 (by omega)
  generalize tx (nv 0) = u at *
  generalize tx (wv q) = a at *
  generalize tx (nv r) = b at *
  have g1 : ¬ u.size + a.size > 9223372036854775807 := by omega
  have g2 : ¬ u.size + a.size + b.size > 9223372036854775807 := by omega
  clear z1 z2 z3
  obtain ⟨p, hp⟩ : ∃ p, n.tdiv 134217728 = p := ⟨_, rfl⟩
  have hp2 : p = q ∨ (p = q + 1 ∧ r ≠ 0) := by
    rw [← hp, ← hq, ← hrr]
    by_cases h0 : 0 ≤ n
    · left; exact Int.tdiv_eq_ediv_of_nonneg h0
    · have e : n.tdiv 134217728 = -((-n) / 134217728) := by
        obtain ⟨m, rfl⟩ : ∃ m : Int, n = -m := ⟨-n, by omega⟩
        rw [Int.neg_tdiv, Int.tdiv_eq_ediv_of_nonneg (by omega), Int.neg_neg]
      rw [e]
      by_cases h1 : n % 134217728 = 0
      · left; omega
      · right; exact ⟨by omega, h1⟩
  obtain ⟨m, hm⟩ : ∃ m, p * 134217728 = m := ⟨_, rfl⟩
  have b1 : -67108864 ≤ p := by omega
  have b2 : p ≤ 67108865 := by omega
  by_cases hg : n < m
  · have hpq : p = q + 1 := by omega
    obtain ⟨m2, hm2⟩ : ∃ m2, q * 134217728 = m2 := ⟨_, rfl⟩
    have e1 : p - 1 = q := by omega
    have e2 : n - m2 = r := by omega
    have b3 : -67108864 ≤ q := by omega
    have b4 : q ≤ 67108864 := by omega
    have b5 : -9007199254740992 ≤ m := by omega
    have b6 : m ≤ 9007199254740992 + 134217728 := by omega
    have b7 : -9007199254740992 ≤ m2 := by omega
    have b8 : m2 ≤ 9007199254740992 := by omega
    obtain ⟨c1, c2⟩ := hr
    clear hpq hp2 hq hrr
    go_enter Tryd.func17, Tryd.ntmps17
    go_wp2_with (fail)
    have kb := box1 w (.cells #[.int .i64 0, .int .i64 n, .string s, .int .i64 x, .int .i64 y] 25)
    have D := Blk.made w 25 (vcs 0 n s x y) rfl
    change Blk (w.alloc (.cells #[.int .i64 0, .int .i64 n, .string s, .int .i64 x, .int .i64 y] 25)) w.heap.size _ at D
    generalize w.alloc (.cells #[.int .i64 0, .int .i64 n, .string s, .int .i64 x, .int .i64 y] 25) = v at *
    refine (HK.out _).mono ?_
    rintro e w1 ⟨rfl, hb⟩
    have HB := Lib.hid (Below.next kb hb)
    have D1 := D.next hb
    have DH := Lib.hid D1
    have d0 := D1.v0; have d1 := D1.v1; have d2 := D1.v2; have d3 := D1.v3; have d4 := D1.v4
    clear hb kb D D1
    go_wp2_with (fail)
    clear d0 d1 d2 d3 d4
    have k0 := fun r : Over w1 => (DH.out.over r).v0
    have k1 := fun r : Over w1 => (DH.out.over r).v1
    have k3 := fun r : Over w1 => (DH.out.over r).v3
    have k4 := fun r : Over w1 => (DH.out.over r).v4
    refine wp_over (by kernel_rfl) (by kernel_rfl) ?_
    repeat (go_big_quiet_step (first | fail | with_reducible exact over_gives _ (HA.out _) | with_reducible exact over_gives _ (HC.out _)))
    refine wpQuiet_nil ?_
    rintro w3 ⟨⟨w3, hb⟩, rfl⟩
    have HB3 := Lib.hid (Below.next HB.out hb)
    clear hb k0 k1 k3 k4
    go_wp2_with (fail)
    go_ret
    exact ⟨ret_str HE.out, HB3.out⟩
  · have hpq : p = q := by omega
    have e2 : n - m = r := by omega
    have b5 : -9007199254740992 ≤ m := by omega
    have b6 : m ≤ 9007199254740992 := by omega
    obtain ⟨c1, c2⟩ := hr
    subst hpq
    clear hp2 hq hrr
    go_enter Tryd.func17, Tryd.ntmps17
    go_wp2_with (fail)
    have kb := box1 w (.cells #[.int .i64 0, .int .i64 n, .string s, .int .i64 x, .int .i64 y] 25)
    have D := Blk.made w 25 (vcs 0 n s x y) rfl
    change Blk (w.alloc (.cells #[.int .i64 0, .int .i64 n, .string s, .int .i64 x, .int .i64 y] 25)) w.heap.size _ at D
    generalize w.alloc (.cells #[.int .i64 0, .int .i64 n, .string s, .int .i64 x, .int .i64 y] 25) = v at *
    refine (HK.out _).mono ?_
    rintro e w1 ⟨rfl, hb⟩
    have HB := Lib.hid (Below.next kb hb)
    have D1 := D.next hb
    have DH := Lib.hid D1
    have d0 := D1.v0; have d1 := D1.v1; have d2 := D1.v2; have d3 := D1.v3; have d4 := D1.v4
    clear hb kb D D1
    go_wp2_with (fail)
    clear d0 d1 d2 d3 d4
    have k0 := fun r : Over w1 => (DH.out.over r).v0
    have k1 := fun r : Over w1 => (DH.out.over r).v1
    have k3 := fun r : Over w1 => (DH.out.over r).v3
    have k4 := fun r : Over w1 => (DH.out.over r).v4
    refine wp_over (by kernel_rfl) (by kernel_rfl) ?_
    repeat (go_big_quiet_step (first | fail | with_reducible exact over_gives _ (HA.out _) | with_reducible exact over_gives _ (HC.out _)))
    refine wpQuiet_nil ?_
    rintro w3 ⟨⟨w3, hb⟩, rfl⟩
    have HB3 := Lib.hid (Below.next HB.out hb)
    clear hb k0 k1 k3 k4
    go_wp2_with (fail)
    go_ret
    exact ⟨ret_str HE.out, HB3.out⟩
theorem rbytes_yes {k n x y : Int} {s : ByteArray} (h : rt ⟨k, n, s.data.toList, x, y⟩ = true) (w : World) : Calls Tryd.prog 17 #[.agg #[.int .i64 k, .int .i64 n, .string s, .int .i64 x, .int .i64 y]] w (Gives (.string (tx (vb ⟨k, n, s.data.toList, x, y⟩))) w) := by
  by_cases h0 : k = 0
  · subst h0; exact rbytes_int h w
  by_cases h1 : k = 1
  · subst h1; exact rbytes_text h w
  by_cases h2 : k = 2
  · subst h2; exact rbytes_point h w
  rw [rt_kind n x y _ h0 h1 h2] at h; cases h
end Go.Proofs.YtpickeicchmhnaaDoor.Va
