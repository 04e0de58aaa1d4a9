/-
  The document's answers for layer 4: Steps, Sum, Bytes, Open.
-/
import Derived.Test.YtkaofakcahnagaaCrSeal
namespace Go.Proofs.Ytkaofakcahnagaa.Cr
open Go.ChangeShapes Go.WideShapes Go.ChangeAt Go.RowKit Go.Proofs.Ytkaofakcahnagaa.Ov

theorem hs_succ (k n : Nat) : hs (k + 1) n = hv (hs k n) := hs_add k 1 n
def RelS (x : Nat) (X I : Value) : Prop := ∃ k : Nat, k ≤ 8 ∧ X = .int .i64 (hs k x : Nat) ∧ I = .int .i64 (k : Int)
set_option maxHeartbeats 1000000 in
theorem steps_any (x : Nat) (w : World) (hx : x < 4294967296) :
    Calls Try.prog 15 #[.int .i64 (x : Int)] w fun e w' => e = .returned (.int .i64 (hs 8 x : Nat)) ∧ w' = w := by
  go_enter Try.func15, Try.ntmps15
  go_wp2_with (fail)
  go_loop [0, 3] (fun X I => RelS x X I) (fun _ I => 8 - (intOf I).toNat)
  case atStart => exact ⟨0, by omega, rfl, rfl⟩
  case round =>
    obtain ⟨k, hk, rfl, rfl⟩ := hrel
    have hl := hs_lt k hx
    have HS := Lib.hid (hs_succ k x)
    by_cases hlt : k < 8
    · generalize hs k x = n at *
      have HX := Lib.hid (bits_xor_i64 (n / 2) 3988292384 (by omega) (by omega))
      by_cases h : n % 2 = 1
      · have HV : Hid (hv n = n / 2 ^^^ 3988292384) := if_pos h
        have e2 : (n : Int) % 2 = 1 := by omega
        clear h
        go_wp2_with (fail)
        go_round
        case rel => exact ⟨k + 1, by omega, by rw [HS.out, HV.out, ← HX.out]; rfl, by go_num⟩
        case measure => simp [intOf]; omega
      · have HV : Hid (hv n = n / 2) := if_neg h
        have e2 : (n : Int) % 2 = 0 := by omega
        clear h
        go_wp2_with (fail)
        go_round
        case rel => exact ⟨k + 1, by omega, by rw [HS.out, HV.out]; rfl, by go_num⟩
        case measure => simp [intOf]; omega
    · obtain rfl : k = 8 := by omega
      go_wp2_with (fail)
      go_ret
      exact ⟨rfl, rfl⟩
def RelRS (t : ByteArray) (X I : Value) : Prop := ∃ k : Nat, k ≤ t.size ∧ X = .int .i64 (run 4294967295 (t.data.toList.take k) : Nat) ∧ I = .int .i64 (k : Int)
set_option maxHeartbeats 1000000 in
theorem rsum_any (t : ByteArray) (w : World) (ht : t.size ≤ 1000000) :
    Calls Try.prog 12 #[.string t] w fun e w' => e = .returned (.int .i64 (sm t.data.toList : Nat)) ∧ w' = w := by
  go_enter Try.func12, Try.ntmps12
  go_wp2_with (fail)
  go_loop [3, 4] (fun X I => RelRS t X I) (fun _ I => t.size - (intOf I).toNat)
  case atStart => exact ⟨0, by omega, rfl, rfl⟩
  case round =>
    obtain ⟨k, hk, rfl, rfl⟩ := hrel
    have hl := run_lt (n := 4294967295) (t.data.toList.take k) (by omega)
    by_cases hlt : k < t.size
    · have HR : Hid (run 4294967295 (t.data.toList.take (k + 1)) = hs 8 (run 4294967295 (t.data.toList.take k) ^^^ t[k].toNat)) := by
        show _ = _
        rw [take_snoc t k hlt, run_snoc]; rfl
      generalize run 4294967295 (t.data.toList.take k) = n at *
      have hb := UInt8.toNat_lt t[k]
      have hx : n ^^^ t[k].toNat < 4294967296 := Nat.xor_lt_two_pow (n := 32) hl (by omega)
      have e2 := bits_xor_i64 n t[k].toNat hl (by omega)
      generalize n ^^^ t[k].toNat = x at *
      have k0 : (k : Int) < (t.size : Int) := by omega
      go_wp2_with (fail)
      refine (steps_any x _ hx).mono ?_
      rintro e w' ⟨rfl, rfl⟩
      go_wp2_with (fail)
      go_round
      case rel => exact ⟨k + 1, by omega, by rw [HR.out], by go_num⟩
      case measure => simp [intOf]; omega
    · obtain rfl : k = t.size := by omega
      rw [take_all] at hl ⊢
      have HS := Lib.hid (sm_run t.data.toList)
      have HX := Lib.hid (bits_xor_i64 (run 4294967295 t.data.toList) 4294967295 hl (by omega))
      generalize run 4294967295 t.data.toList = n at *
      go_wp2_with (fail)
      go_ret
      exact ⟨ret_int (by rw [HS.out, Nat.xor_comm, ← HX.out]; rfl), rfl⟩
theorem rbytes_text (x : Nat) (w : World) (hx : x < 4294967296) :
    (convert 25 9 (.slice (some ⟨w.heap.size, 0, none⟩) 4 4)).run Try.prog (w.alloc (.cells #[.int .u8 ((x : Int) % 256), .int .u8 ((x : Int) / 256 % 256), .int .u8 ((x : Int) / 65536 % 256), .int .u8 ((x : Int) / 16777216)] 5)) =
      .ok (.string (tx (sb x))) (w.alloc (.cells #[.int .u8 ((x : Int) % 256), .int .u8 ((x : Int) / 256 % 256), .int .u8 ((x : Int) / 65536 % 256), .int .u8 ((x : Int) / 16777216)] 5)) := by
  refine run_text rfl fun j hj => ?_
  rw [World.cell?_alloc_at _ _ _ _ rfl, sb_at j hj, by8_n, Nat.zero_add]
  have h4 : j < 4 := hj
  match j, h4 with
  | 0, _ => simp
  | 1, _ => simp
  | 2, _ => simp
  | 3, _ => simp; omega
set_option maxHeartbeats 1000000 in
theorem rbytes_any (x : Nat) (w : World) (hx : x < 4294967296) :
    Calls Try.prog 17 #[.int .i64 (x : Int)] w fun e w' => e = .returned (.string (tx (sb x))) ∧ Below w.heap.size w w' := by
  go_enter Try.func17, Try.ntmps17
  have hcv := rbytes_text x w hx
  go_wp2_with (fail)
  go_ret
  exact ⟨rfl, (Below.refl _ _).alloc (Nat.le_refl _) _⟩
set_option maxHeartbeats 1000000 in
theorem ropen_short (t : ByteArray) (w : World) (ht : t.size < 4) :
    Calls Try.prog 16 #[.string t] w fun e w' => e = .returned (.tuple #[.string ⟨#[]⟩, .int .i64 2]) ∧ Below w.heap.size w w' := by
  go_enter Try.func16, Try.ntmps16
  go_wp2_with (fail)
  go_ret2
  exact ⟨rfl, Below.refl _ _⟩
theorem rsum_ext (t : ByteArray) (n : Nat) (w : World) (ht : t.size ≤ 1000000) :
    Calls Try.prog 12 #[.string (t.extract 0 n)] w fun e w' => e = .returned (.int .i64 (sm (t.data.toList.take n) : Nat)) ∧ w' = w := by
  rw [ext_take]
  have h := rsum_any (tx (t.data.toList.take n)) w (by rw [tx_size]; have := List.length_take_le' n t.data.toList; simp at this ⊢; omega)
  rw [tx_list] at h
  exact h
set_option maxHeartbeats 1000000 in
theorem ropen_bad (t : ByteArray) (w : World) (ht : 4 ≤ t.size) (hm : t.size ≤ 1000000) (hne : t.data.toList.drop (t.size - 4) ≠ sb (sm (t.data.toList.take (t.size - 4)))) :
    Calls Try.prog 16 #[.string t] w fun e w' => e = .returned (.tuple #[.string ⟨#[]⟩, .int .i64 7]) ∧ Below w.heap.size w w' := by
  have hq := (eq_bool t (sb (sm (t.data.toList.take (t.size - 4))))).trans (decide_eq_false hne)
  clear hne
  go_enter Try.func16, Try.ntmps16
  go_wp2_with (fail)
  refine wp_over (by kernel_rfl) (by kernel_rfl) ?_
  repeat (go_big_quiet_step (first
    | (go_at_call 12; exact over_same _ (rsum_ext t (t.size - 4) _ hm))
    | (go_at_call 17; exact over_make _ (rbytes_any _ _ (sm_lt _)))))
  refine wpQuiet_nil ?_
  rintro wq ⟨⟨w1, hb⟩, hw⟩
  obtain rfl : w1 = wq := hw.symm
  have HB : Hid (Below w.heap.size w w1) := hb
  clear hb hw
  go_wp2_with (fail)
  go_ret2
  exact ⟨rfl, HB.out⟩
set_option maxHeartbeats 1000000 in
theorem ropen_yes (t : ByteArray) (w : World) (ht : 4 ≤ t.size) (hm : t.size ≤ 1000000) (heq : t.data.toList.drop (t.size - 4) = sb (sm (t.data.toList.take (t.size - 4)))) :
    Calls Try.prog 16 #[.string t] w fun e w' => e = .returned (.tuple #[.string (tx (t.data.toList.take (t.size - 4))), .int .i64 0]) ∧ Below w.heap.size w w' := by
  have hq := (eq_bool t (sb (sm (t.data.toList.take (t.size - 4))))).trans (decide_eq_true heq)
  clear heq
  go_enter Try.func16, Try.ntmps16
  go_wp2_with (fail)
  refine wp_over (by kernel_rfl) (by kernel_rfl) ?_
  repeat (go_big_quiet_step (first
    | (go_at_call 12; exact over_same _ (rsum_ext t (t.size - 4) _ hm))
    | (go_at_call 17; exact over_make _ (rbytes_any _ _ (sm_lt _)))))
  refine wpQuiet_nil ?_
  rintro wq ⟨⟨w1, hb⟩, hw⟩
  obtain rfl : w1 = wq := hw.symm
  have HB : Hid (Below w.heap.size w w1) := hb
  clear hb hw
  go_wp2_with (fail)
  go_ret2
  exact ⟨by rw [← ext_take]; rfl, HB.out⟩
end Go.Proofs.Ytkaofakcahnagaa.Cr
