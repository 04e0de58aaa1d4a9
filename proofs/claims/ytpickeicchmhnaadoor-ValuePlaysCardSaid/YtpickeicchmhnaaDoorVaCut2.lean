/-
  What cutWhole and cutNumbers answer.
-/
import Derived.Test.YtpickeicchmhnaaDoorVaCut
import Derived.Test.YtpickeicchmhnaaDoorVaNum
import Derived.Test.YtpickeicchmhnaaDoorVaRight
import Derived.Test.YtpickeicchmhnaaDoorOvPre
namespace Go.Proofs.YtpickeicchmhnaaDoor.Va
open Go.ChangeShapes Go.WideShapes Go.ChangeAt Go.RowKit Go.Proofs.YtpickeicchmhnaaDoor.Ov Go.Proofs.YtpickeicchmhnaaDoor.Tp

def cwv (r : Int × Nat × Nat) : Value := .tuple #[.int .i64 r.1, .int .i64 (r.2.1 : Int), .int .i64 (r.2.2 : Int)]
theorem ext_list (s : ByteArray) (n : Nat) : (s.extract n s.size).data.toList = s.data.toList.drop n := by rw [ext_drop, tx_list]
theorem ext_size (s : ByteArray) (n : Nat) : (s.extract n s.size).size = s.size - n := by simp
set_option maxHeartbeats 1000000 in
theorem cutWhole_any (s : ByteArray) (w : World) (hs : s.size ≤ 281474976710656) :
    Calls Tryd.prog 58 #[.string s] w fun e w' => e = .returned (cwv (cw s.data.toList)) ∧ w = w' := by
  have HP := Lib.hid (prefix_any s 45)
  by_cases h : s.data.toList.head? = some 45
  · have hd : decide (s.data.toList.head? = some 45) = true := decide_eq_true h
    rw [hd] at HP
    have hsz : 1 ≤ s.size := by
      cases hl : s.data.toList with
      | nil => rw [hl] at h; simp at h
      | cons c t =>
        have := congrArg List.length hl
        simp at this; omega
    have HC := Lib.hid (cutDigits_any (s.extract 1 s.size))
    have HE : Hid (cw s.data.toList = if (cd (s.data.toList.drop 1)).2.2 ≠ 0 then (0, 0, (cd (s.data.toList.drop 1)).2.2) else if (cd (s.data.toList.drop 1)).1 = 0 then (0, 0, 6) else (-((cd (s.data.toList.drop 1)).1 : Int), (cd (s.data.toList.drop 1)).2.1 + 1, 0)) := by
      show _ = _
      unfold cw; rw [if_pos h, List.drop_one]
    have hz2 := ext_size s 1
    rw [ext_list] at HC
    clear h hd
    rcases cd_cases (s.data.toList.drop 1) with ⟨n, z, e⟩ | ⟨k, e, hk, hk'⟩
    · have hb := cd_zero e
      have hb2 : z ≤ s.size := by
        have := hb.2
        rw [List.length_drop] at this
        simp at this; omega
      rw [e] at HC HE
      have HE1 : Hid (cw s.data.toList = if n = 0 then (0, 0, 6) else (-(n : Int), z + 1, 0)) := HE.out.trans (if_neg (by simp))
      obtain ⟨hb1, _⟩ := hb
      clear e HE
      by_cases hn : n = 0
      · subst hn
        have HF := Lib.hid (HE1.out.trans (if_pos rfl))
        clear HE1
        go_enter Tryd.func58, Tryd.ntmps58
        go_wp2_with (fail)
        refine (HP.out _).mono ?_
        rintro e w' ⟨rfl, rfl⟩
        go_wp2_with (fail)
        refine (HC.out _ (by omega)).mono ?_
        rintro e w' ⟨rfl, rfl⟩
        unfold cdv
        go_wp2_with (fail)
        go_ret3
        exact ⟨by rw [HF.out]; rfl, rfl⟩
      · have HF := Lib.hid (HE1.out.trans (if_neg hn))
        have h0 : ((n : Int) == 0) = false := by rw [beq_eq_false_iff_ne]; omega
        clear HE1 hn
        go_enter Tryd.func58, Tryd.ntmps58
        go_wp2_with (fail)
        refine (HP.out _).mono ?_
        rintro e w' ⟨rfl, rfl⟩
        go_wp2_with (fail)
        refine (HC.out _ (by omega)).mono ?_
        rintro e w' ⟨rfl, rfl⟩
        unfold cdv
        go_wp2_with (fail)
        go_ret3
        exact ⟨by rw [HF.out]; rfl, rfl⟩
    · rw [e] at HC HE
      have HF : Hid (cw s.data.toList = (0, 0, k)) := HE.out.trans (if_pos (by show k ≠ 0; omega))
      have h0 : ((k : Int) != 0) = true := by rw [bne_iff_ne]; omega
      clear e HE
      go_enter Tryd.func58, Tryd.ntmps58
      go_wp2_with (fail)
      refine (HP.out _).mono ?_
      rintro e w' ⟨rfl, rfl⟩
      go_wp2_with (fail)
      refine (HC.out _ (by omega)).mono ?_
      rintro e w' ⟨rfl, rfl⟩
      unfold cdv
      go_wp2_with (fail)
      go_ret3
      exact ⟨by rw [HF.out]; rfl, rfl⟩
  · have hd : decide (s.data.toList.head? = some 45) = false := decide_eq_false h
    rw [hd] at HP
    have HC := Lib.hid (cutDigits_any s)
    have HE : Hid (cw s.data.toList = (((cd s.data.toList).1 : Int), (cd s.data.toList).2.1, (cd s.data.toList).2.2)) := if_neg h
    generalize cd s.data.toList = q at *
    obtain ⟨q1, q2, q3⟩ := q
    clear h hd
    go_enter Tryd.func58, Tryd.ntmps58
    go_wp2_with (fail)
    refine (HP.out _).mono ?_
    rintro e w' ⟨rfl, rfl⟩
    go_wp2_with (fail)
    refine (HC.out _ hs).mono ?_
    rintro e w' ⟨rfl, rfl⟩
    unfold cdv
    go_wp2_with (fail)
    go_ret3
    exact ⟨by rw [HE.out]; rfl, rfl⟩
end Go.Proofs.YtpickeicchmhnaaDoor.Va
