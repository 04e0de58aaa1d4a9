/-
  What crc's sumBytes, Seal and Open answer.
-/
import Derived.Test.YtkaofakcahnagaaCrMore
import Derived.Test.YtkaofakcahnagaaOvClone
namespace Go.Proofs.Ytkaofakcahnagaa.Cr
open Go.ChangeShapes Go.WideShapes Go.ChangeAt Go.RowKit Go.Proofs.Ytkaofakcahnagaa.Ov

theorem sb_at {x : Nat} (j : Nat) (hj : j < (sb x).length) : (sb x)[j] = by8 x j := by
  have h4 : j < 4 := hj
  match j, h4 with
  | 0, _ => rfl
  | 1, _ => rfl
  | 2, _ => rfl
  | 3, _ => rfl
def RelB (w : World) (B x : Nat) (I : Value) (wr : World) : Prop := ∃ k : Nat, k ≤ 4 ∧ I = .int .i64 (k : Int) ∧ RowTo w B 5 4 (fun i => .int .u8 (by8 x i).toNat) (.int .u8 0) k wr
set_option maxRecDepth 100000 in
set_option maxHeartbeats 1000000 in
theorem sumBytes_any (t : ByteArray) (w : World) (ht : t.size ≤ 1000000) :
    Calls Try.prog 18 #[.string t] w fun e w' => e = .returned (.string (tx (sb (sm t.data.toList)))) ∧ Below w.heap.size w w' := by
  have hmk : ∀ w, (Instr.makeSlice 25 (.int .i64 4) (.int .i64 4)).run Try.prog w = .ok (.slice (some ⟨w.heap.size, 0, none⟩) 4 4) (w.alloc (.cells (madeCells #[.int .u8 0] 4) 5)) :=
    run_make_row' (P := Try.prog) 25 5 (.int .u8 0) 1 Try.underlying25 info8 rfl .i64 .i64 4 (by omega) (by omega)
  go_enter Try.func18, Try.ntmps18
  go_wp2_with (fail)
  refine (sum_any t _ ht).mono ?_
  rintro e w1 ⟨rfl, hb⟩
  have HB := Lib.hid hb; clear hb
  have hl := sm_lt t.data.toList
  generalize hx : sm t.data.toList = x at *
  have HX := Lib.hid hx; clear hx
  go_wp2_with (fail)
  clear hmk
  go_loopw [11] (fun I wr => RelB w w1.heap.size x I wr) (fun I _ => 4 - (intOf I).toNat)
  case atStart => exact ⟨0, by omega, rfl, RowTo.start HB.out _ 4 _ _⟩
  case round =>
    obtain ⟨k, hk, rfl, hR⟩ := hrel
    have HR := Lib.hid hR; clear hR
    by_cases hlt : k < 4
    · have hc := HR.out.cell hlt
      have hf := HR.out.row.frozen k
      go_wp2_with (fail)
      go_roundw
      case rel => exact ⟨k + 1, by omega, by go_num, HR.out.set (by rw [by8_n]; simp)⟩
      case measure => simp [intOf]; omega
    · obtain rfl : k = 4 := by omega
      have hcv := run_text (w := wr) (b := w1.heap.size) (o := 0) (c := 4) (l := sb x) (m := 4) rfl (fun j hj => by
        rw [Nat.zero_add, HR.out.done.cell hj, sb_at j hj])
      go_wp2_with (fail)
      go_ret
      exact ⟨by rw [HX.out]; rfl, HR.out.below⟩
set_option maxHeartbeats 1000000 in
theorem seal_any (t : ByteArray) (w : World) (ht : t.size ≤ 1000000) :
    Calls Try.prog 10 #[.string t] w fun e w' => e = .returned (.string (tx (sl t.data.toList))) ∧ Below w.heap.size w w' := by
  have HE : Hid (t ++ tx (sb (sm t.data.toList)) = tx (sl t.data.toList)) := tx_ext (by rw [list_append, tx_list]; rfl)
  have hz : (tx (sb (sm t.data.toList))).size ≤ 4 := by rw [tx_size]; exact Nat.le_refl _
  go_enter Try.func10, Try.ntmps10
  go_wp2_with (fail)
  refine (sumBytes_any t _ ht).mono ?_
  rintro e w1 ⟨rfl, hb⟩
  have HB := Lib.hid hb; clear hb
  generalize tx (sb (sm t.data.toList)) = u at *
  have hz' : ¬ t.size + u.size > 9223372036854775807 := by omega
  go_wp2_with (fail)
  go_ret
  exact ⟨ret_str HE.out, HB.out⟩
theorem sumBytes_ext (t : ByteArray) (n : Nat) (w : World) (ht : t.size ≤ 1000000) :
    Calls Try.prog 18 #[.string (t.extract 0 n)] w fun e w' => e = .returned (.string (tx (sb (sm (t.data.toList.take n))))) ∧ Below w.heap.size w w' := by
  rw [ext_take]
  have h := sumBytes_any (tx (t.data.toList.take n)) w (by rw [tx_size]; have := List.length_take_le' n t.data.toList; simp at this ⊢; omega)
  rw [tx_list] at h
  exact h
theorem eq_bool (t : ByteArray) (l : List UInt8) : ((t.extract (t.size - 4) t.size).toList == (tx l).toList) = decide (t.data.toList.drop (t.size - 4) = l) := by
  rw [ByteArray.toList_eq, ByteArray.toList_eq, ext_drop, tx_list, tx_list]
  rw [Bool.eq_iff_iff]; simp
set_option maxHeartbeats 1000000 in
theorem open_short (t : ByteArray) (w : World) (ht : t.size < 4) :
    Calls Try.prog 9 #[.string t] w fun e w' => e = .returned (.tuple #[.string ⟨#[]⟩, .int .i64 2]) ∧ Below w.heap.size w w' := by
  go_enter Try.func9, Try.ntmps9
  go_wp2_with (fail)
  go_ret2
  exact ⟨rfl, Below.refl _ _⟩
set_option maxHeartbeats 1000000 in
theorem open_bad (t : ByteArray) (w : World) (ht : 4 ≤ t.size) (hm : t.size ≤ 1000000) (hne : t.data.toList.drop (t.size - 4) ≠ sb (sm (t.data.toList.take (t.size - 4)))) :
    Calls Try.prog 9 #[.string t] w fun e w' => e = .returned (.tuple #[.string ⟨#[]⟩, .int .i64 7]) ∧ Below w.heap.size w w' := by
  have hq := (eq_bool t (sb (sm (t.data.toList.take (t.size - 4))))).trans (decide_eq_false hne)
  clear hne
  go_enter Try.func9, Try.ntmps9
  go_wp2_with (fail)
  refine wp_over (by kernel_rfl) (by kernel_rfl) ?_
  repeat (go_big_quiet_step ((go_at_call 18; exact over_make _ (sumBytes_ext t (t.size - 4) _ hm))))
  refine wpQuiet_nil ?_
  rintro wq ⟨⟨w1, hb⟩, hw⟩
  obtain rfl : w1 = wq := hw.symm
  have HB : Hid (Below w.heap.size w w1) := hb
  clear hb hw
  go_wp2_with (fail)
  go_ret2
  exact ⟨rfl, HB.out⟩
set_option maxHeartbeats 1000000 in
theorem open_yes (t : ByteArray) (w : World) (ht : 4 ≤ t.size) (hm : t.size ≤ 1000000) (heq : t.data.toList.drop (t.size - 4) = sb (sm (t.data.toList.take (t.size - 4)))) :
    Calls Try.prog 9 #[.string t] w fun e w' => e = .returned (.tuple #[.string (tx (t.data.toList.take (t.size - 4))), .int .i64 0]) ∧ Below w.heap.size w w' := by
  have hq := (eq_bool t (sb (sm (t.data.toList.take (t.size - 4))))).trans (decide_eq_true heq)
  clear heq
  go_enter Try.func9, Try.ntmps9
  go_wp2_with (fail)
  refine wp_over (by kernel_rfl) (by kernel_rfl) ?_
  repeat (go_big_quiet_step ((go_at_call 18; exact over_make _ (sumBytes_ext t (t.size - 4) _ hm))))
  refine wpQuiet_nil ?_
  rintro wq ⟨⟨w1, hb⟩, hw⟩
  obtain rfl : w1 = wq := hw.symm
  have HB : Hid (Below w.heap.size w w1) := hb
  clear hb hw
  go_wp2_with (fail)
  refine (clone_any _ _ (by rw [ext_take, tx_size]; have := List.length_take_le' (t.size - 4) t.data.toList; simp at this ⊢; omega)).mono ?_
  rintro e w2 ⟨rfl, hb2⟩
  have HB2 := Lib.hid (Below.next HB.out hb2); clear hb2
  go_wp2_with (fail)
  go_ret2
  exact ⟨by rw [← ext_take]; rfl, HB2.out⟩
end Go.Proofs.Ytkaofakcahnagaa.Cr
