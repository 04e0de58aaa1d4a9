/-
  What cutByte answers (written by gen_vabyte.py).
-/
import Derived.Test.YtpickeicchmhnaaDoorVaSmall
import Derived.Test.YtpickeicchmhnaaDoorVaTxt
import Derived.Test.YtpickeicchmhnaaDoorOvByte
import Derived.Test.YtpickeicchmhnaaDoorOvJump
namespace Go.Proofs.YtpickeicchmhnaaDoor.Va
open Go.ChangeShapes Go.WideShapes Go.ChangeAt Go.RowKit Go.Proofs.YtpickeicchmhnaaDoor.Ov Go.Proofs.YtpickeicchmhnaaDoor.Tp

def JB (s : ByteArray) (w : World) (a' : Act) (w' : World) : Prop := ∃ (k n : Nat) (u7 u8 u9 u10 u11 u12 u13 u14 u15 u16 u17 u18 u19 u20 u21 u22 u23 u24 u25 u26 u27 u28 u29 u30 u31 u32 u33 u34 u35 u36 u37 u38 u39 u40 : Value),
  k ≤ s.size ∧ ((k = 1 ∧ n = 0 ∧ cb s.data.toList = cb2 (s.data.toList.drop 1)) ∨ (k = 2 ∧ n < 16 ∧ cb s.data.toList = cb3 n (s.data.toList.drop 2))) ∧ w' = w ∧
  a' = { tmps := #[.string s, undef, .int .u8 0, .int .i64 0, .int .i64 0, .int .i64 (n : Int), .int .i64 (k : Int), u7, u8, u9, u10, u11, u12, u13, u14, u15, u16, u17, u18, u19, u20, u21, u22, u23, u24, u25, u26, u27, u28, u29, u30, u31, u32, u33, u34, u35, u36, u37, u38, u39, u40], defers := [] }
def muB (a : Act) (_ : World) : Nat := 3 - (intOf (a.tmps.getD 6 undef)).toNat
def cbv (r : UInt8 × Nat × Nat) : Value := .tuple #[.int .u8 (r.1.toNat : Int), .int .i64 (r.2.1 : Int), .int .i64 (r.2.2 : Int)]
theorem drop_at {s : ByteArray} {k : Nat} (h : k < s.size) : s.data.toList.drop k = s[k] :: s.data.toList.drop (k + 1) := by
  have hl : k < s.data.toList.length := by simpa using h
  rw [List.drop_eq_getElem_cons hl]; rfl
theorem digit_any (c : UInt8) (w : World) : Calls Tryd.prog 68 #[.string ⟨#[48, 49, 50, 51, 52, 53, 54, 55, 56, 57, 97, 98, 99, 100, 101, 102]⟩, .int .u8 (c.toNat : Int)] w fun e w' => e = .returned (.int .i64 (sv c)) ∧ w = w' := index_any ⟨#[48, 49, 50, 51, 52, 53, 54, 55, 56, 57, 97, 98, 99, 100, 101, 102]⟩ c w
set_option maxRecDepth 100000 in
set_option maxHeartbeats 2000000 in
theorem cutByte_any (s : ByteArray) (w : World) (h0 : 0 < s.size) (hs : s.size ≤ 281474976710656) :
    Calls Tryd.prog 57 #[.string s] w fun e w' => e = .returned (cbv (cb s.data.toList)) ∧ w = w' := by
  have hl : s.data.toList = s[0] :: s.data.toList.drop 1 := (List.drop_zero).symm.trans (drop_at h0)
  obtain ⟨c, hc⟩ : ∃ c : UInt8, s[0] = c := ⟨_, rfl⟩
  rw [hc] at hl
  have HP := Lib.hid (plain_any c)
  by_cases hp : pl c = true
  · rw [hp] at HP
    have HE : Hid (cb s.data.toList = (c, 1, 0)) := by show _ = _; rw [hl]; exact cb_plain _ hp
    clear hl hp
    go_enter Tryd.func57, Tryd.ntmps57
    go_wp2_with (fail)
    refine wp_scope_once 0 (fun _ _ => False) (fun _ _ => 0) rfl (fun NX => ?_) (fun _ _ h => h.elim)
    go_wp2_with (fail)
    refine (HP.out _).mono ?_
    rintro e w' ⟨rfl, rfl⟩
    go_wp2_with (fail)
    simp only [Exit.jump]
    go_ret3
    exact ⟨by rw [HE.out]; rfl, rfl⟩
  · have hp' : pl c = false := by simpa using hp
    rw [hp'] at HP
    by_cases h92 : c = 92
    · subst h92
      have HL : Hid (cb s.data.toList = cb2 (s.data.toList.drop 1)) := by
        show _ = _
        have := congrArg cb hl
        rw [this]; exact cb_esc _
      clear hl hp hp'
      go_enter Tryd.func57, Tryd.ntmps57
      go_wp2_with (fail)
      refine wp_scope_once 0 (JB s w) muB rfl (fun NX => ?_) ?_
      · go_wp2_with (fail)
        refine (HP.out _).mono ?_
        rintro e w' ⟨rfl, rfl⟩
        go_wp2_with (fail)
        go_step3
        rename_i hK
        exact hK _ _ (NX.out _ _ ⟨1, 0, _, _, _, _, _, _, _, _, _, _, _, _, _, _, _, _, _, _, _, _, _, _, _, _, _, _, _, _, _, _, _, _, _, _, by omega, .inl ⟨rfl, rfl, HL.out⟩, rfl, rfl⟩)
      · rintro a' w' ⟨k, n, u7, u8, u9, u10, u11, u12, u13, u14, u15, u16, u17, u18, u19, u20, u21, u22, u23, u24, u25, u26, u27, u28, u29, u30, u31, u32, u33, u34, u35, u36, u37, u38, u39, u40, hk, hcase, rfl, rfl⟩
        clear HL HP
        rcases hcase with ⟨rfl, rfl, hcb⟩ | ⟨rfl, hn, hcb⟩
        · have HC := Lib.hid hcb; clear hcb
          by_cases he : s.size = 1
          · have g0 : ((1 : Int) == (s.size : Int)) = true := by rw [beq_iff_eq]; omega
            have HE : Hid (cb s.data.toList = (0, 0, 2)) := by
              show _ = _
              rw [HC.out, List.drop_of_length_le (by simp; omega)]; rfl
            clear he
            go_wp2_with (fail)
            simp only [Exit.jump]
            go_ret3
            exact ⟨by rw [HE.out]; rfl, rfl⟩
          · have hlt : 1 < s.size := by omega
            have g0 : ((1 : Int) == (s.size : Int)) = false := by rw [beq_eq_false_iff_ne]; omega
            have HD := Lib.hid (drop_at hlt)
            obtain ⟨a, ha⟩ : ∃ a : UInt8, s[1] = a := ⟨_, rfl⟩
            rw [ha] at HD
            have HX := Lib.hid (digit_any a)
            clear he
            rcases sv_cases a with ea | ⟨m, hm, ea, _⟩
            · have HE : Hid (cb s.data.toList = (0, 0, 6)) := by
                show _ = _
                rw [HC.out, HD.out, cb2_cons, if_pos (by omega)]
              rw [ea] at HX; clear ea
              go_wp2_with (fail)
              refine (HX.out _).mono ?_
              rintro e w' ⟨rfl, rfl⟩
              go_wp2_with (fail)
              simp only [Exit.jump]
              go_ret3
              exact ⟨by rw [HE.out]; rfl, rfl⟩
            · have HE : Hid (cb s.data.toList = cb3 m (s.data.toList.drop 2)) := by
                show _ = _
                rw [HC.out, HD.out, cb2_cons, if_neg (by omega), ea]; rfl
              rw [ea] at HX; clear ea
              go_wp2_with (fail)
              refine (HX.out _).mono ?_
              rintro e w' ⟨rfl, rfl⟩
              go_wp2_with (fail)
              go_step3
              refine ⟨rfl, ⟨2, m, _, _, _, _, _, _, _, _, _, _, _, _, _, _, _, _, _, _, _, _, _, _, _, _, _, _, _, _, _, _, _, _, _, _, hlt, .inr ⟨rfl, hm, HE.out⟩, rfl, rfl⟩, ?_⟩
              simp [muB, intOf]
        · have HC := Lib.hid hcb; clear hcb
          by_cases he : s.size = 2
          · have g0 : ((2 : Int) == (s.size : Int)) = true := by rw [beq_iff_eq]; omega
            have HE : Hid (cb s.data.toList = (0, 0, 2)) := by
              show _ = _
              rw [HC.out, List.drop_of_length_le (by simp; omega)]; rfl
            clear he
            go_wp2_with (fail)
            simp only [Exit.jump]
            go_ret3
            exact ⟨by rw [HE.out]; rfl, rfl⟩
          · have hlt : 2 < s.size := by omega
            have g0 : ((2 : Int) == (s.size : Int)) = false := by rw [beq_eq_false_iff_ne]; omega
            have HD := Lib.hid (drop_at hlt)
            obtain ⟨a, ha⟩ : ∃ a : UInt8, s[2] = a := ⟨_, rfl⟩
            rw [ha] at HD
            have HX := Lib.hid (digit_any a)
            clear he
            rcases sv_cases a with ea | ⟨m, hm, ea, _⟩
            · have HE : Hid (cb s.data.toList = (0, 0, 6)) := by
                show _ = _
                rw [HC.out, HD.out, cb3_cons, if_pos (by omega)]
              rw [ea] at HX; clear ea
              go_wp2_with (fail)
              refine (HX.out _).mono ?_
              rintro e w' ⟨rfl, rfl⟩
              go_wp2_with (fail)
              simp only [Exit.jump]
              go_ret3
              exact ⟨by rw [HE.out]; rfl, rfl⟩
            · obtain ⟨d, hd⟩ : ∃ d : UInt8, UInt8.ofNat (16 * n + m) = d := ⟨_, rfl⟩
              have HE1 : Hid (cb s.data.toList = if pl d = true then (0, 0, 6) else (d, 3, 0)) := by
                show _ = _
                rw [HC.out, HD.out, cb3_cons, if_neg (by omega), ea, Int.toNat_natCast, hd]
              have HY : Hid (IntKind.u8.wrap (16 * (n : Int) + (m : Int)) = (d.toNat : Int)) := by
                show _ = _
                rw [← hd, u8_nat (by omega), IntWalk.u8_in _ (by omega)]; omega
              have HZ : Hid (16 * (n : Int) + (m : Int) = (d.toNat : Int)) := by
                show _ = _
                rw [← hd, u8_nat (by omega)]; omega
              have HPD := Lib.hid (plain_any d)
              rw [ea] at HX; clear ea hd
              rcases Bool.eq_false_or_eq_true (pl d) with hpd | hpd
              · have HE := Lib.hid (HE1.out.trans (if_pos hpd))
                rw [hpd] at HPD; clear hpd HE1
                go_wp2_with (fail)
                refine (HX.out _).mono ?_
                rintro e w' ⟨rfl, rfl⟩
                go_wp2_with (fail)
                rw [HZ.out]
                refine (HPD.out _).mono ?_
                rintro e w' ⟨rfl, rfl⟩
                go_wp2_with (fail)
                simp only [Exit.jump]
                go_ret3
                exact ⟨by rw [HE.out]; rfl, rfl⟩
              · have HE := Lib.hid (HE1.out.trans (if_neg (by rw [hpd]; decide)))
                rw [hpd] at HPD; clear hpd HE1
                go_wp2_with (fail)
                refine (HX.out _).mono ?_
                rintro e w' ⟨rfl, rfl⟩
                go_wp2_with (fail)
                rw [HZ.out]
                refine (HPD.out _).mono ?_
                rintro e w' ⟨rfl, rfl⟩
                go_wp2_with (fail)
                simp only [Exit.jump]
                go_ret3
                exact ⟨by rw [HE.out]; rfl, rfl⟩
    · have g1 : ((c.toNat : Int) != 92) = true := by
        rw [bne_iff_ne]
        intro e
        exact h92 (UInt8.toNat_inj.1 (show c.toNat = 92 by omega))
      have HE : Hid (cb s.data.toList = (0, 0, 6)) := by show _ = _; rw [hl]; exact cb_form _ hp' h92
      clear hl hp hp' h92
      go_enter Tryd.func57, Tryd.ntmps57
      go_wp2_with (fail)
      refine wp_scope_once 0 (fun _ _ => False) (fun _ _ => 0) rfl (fun NX => ?_) (fun _ _ h => h.elim)
      go_wp2_with (fail)
      refine (HP.out _).mono ?_
      rintro e w' ⟨rfl, rfl⟩
      go_wp2_with (fail)
      simp only [Exit.jump]
      go_ret3
      exact ⟨by rw [HE.out]; rfl, rfl⟩
end Go.Proofs.YtpickeicchmhnaaDoor.Va
