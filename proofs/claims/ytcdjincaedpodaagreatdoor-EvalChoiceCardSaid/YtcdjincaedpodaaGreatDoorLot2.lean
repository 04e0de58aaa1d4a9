/-
  The texts of this claim, lot 2: VaByte, VaCut, OvPre, VaCut2, VaCut3, OvText, OvOwn, VaText, VaParse, ExWord, ExFind, ExBox, OvTail, ExCut, ExPart, ExMem, VaVal, ExArg, EvMath, EvGood.
-/
import Derived.Test.YtcdjincaedpodaaGreatDoorLot1
import Derived.Shelf.Strings.Prefix
import Derived.Deep.RegionLaw
import Derived.Laws.RangeAny
import Derived.Lib.OthersKept
import Derived.StillTail
import Derived.Laws.OwnMore
import Derived.Deep.AppendLies
import Derived.WalkKit
import Derived.ProofKit
import Derived.Lib.SmallJoins
import Derived.OpenShut
import Derived.ShutString
import Derived.Deep.Slices
import Derived.DataReads
/-
  What cutByte answers (written by gen_vabyte.py).
-/
namespace Go.Proofs.YtcdjincaedpodaaGreatDoor.Va
open Go.ChangeShapes Go.WideShapes Go.ChangeAt Go.RowKit Go.Proofs.YtcdjincaedpodaaGreatDoor.Ov Go.Proofs.YtcdjincaedpodaaGreatDoor.Tp

def JB (s : ByteArray) (w : World) (a' : Act) (w' : World) : Prop := ∃ (k n : Nat) (u7 u8 u9 u10 u11 u12 u13 u14 u15 u16 u17 u18 u19 u20 u21 u22 u23 u24 u25 u26 u27 u28 u29 u30 u31 u32 u33 u34 u35 u36 u37 u38 u39 u40 : Value),
  k ≤ s.size ∧ ((k = 1 ∧ n = 0 ∧ cb s.data.toList = cb2 (s.data.toList.drop 1)) ∨ (k = 2 ∧ n < 16 ∧ cb s.data.toList = cb3 n (s.data.toList.drop 2))) ∧ w' = w ∧
  a' = { tmps := #[.string s, undef, .int .u8 0, .int .i64 0, .int .i64 0, .int .i64 (n : Int), .int .i64 (k : Int), u7, u8, u9, u10, u11, u12, u13, u14, u15, u16, u17, u18, u19, u20, u21, u22, u23, u24, u25, u26, u27, u28, u29, u30, u31, u32, u33, u34, u35, u36, u37, u38, u39, u40], defers := [] }
def muB (a : Act) (_ : World) : Nat := 3 - (intOf (a.tmps.getD 6 undef)).toNat
def cbv (r : UInt8 × Nat × Nat) : Value := .tuple #[.int .u8 (r.1.toNat : Int), .int .i64 (r.2.1 : Int), .int .i64 (r.2.2 : Int)]
theorem drop_at {s : ByteArray} {k : Nat} (h : k < s.size) : s.data.toList.drop k = s[k] :: s.data.toList.drop (k + 1) := by
  have hl : k < s.data.toList.length := by simpa using h
  rw [List.drop_eq_getElem_cons hl]; rfl
theorem digit_any (c : UInt8) (w : World) : Calls Tryz.prog 159 #[.string ⟨#[48, 49, 50, 51, 52, 53, 54, 55, 56, 57, 97, 98, 99, 100, 101, 102]⟩, .int .u8 (c.toNat : Int)] w fun e w' => e = .returned (.int .i64 (sv c)) ∧ w = w' := index_any ⟨#[48, 49, 50, 51, 52, 53, 54, 55, 56, 57, 97, 98, 99, 100, 101, 102]⟩ c w
set_option maxRecDepth 100000 in
set_option maxHeartbeats 2000000 in
theorem cutByte_any (s : ByteArray) (w : World) (h0 : 0 < s.size) (hs : s.size ≤ 281474976710656) :
    Calls Tryz.prog 145 #[.string s] w fun e w' => e = .returned (cbv (cb s.data.toList)) ∧ w = w' := by
  have hl : s.data.toList = s[0] :: s.data.toList.drop 1 := (List.drop_zero).symm.trans (drop_at h0)
  obtain ⟨c, hc⟩ : ∃ c : UInt8, s[0] = c := ⟨_, rfl⟩
  rw [hc] at hl
  have HP := Lib.hid (plain_any c)
  by_cases hp : pl c = true
  · rw [hp] at HP
    have HE : Hid (cb s.data.toList = (c, 1, 0)) := by show _ = _; rw [hl]; exact cb_plain _ hp
    clear hl hp
    go_enter Tryz.func145, Tryz.ntmps145
    go_wp2_with (fail)
    refine wp_scope_once 0 (fun _ _ => False) (fun _ _ => 0) rfl (fun NX => ?_) (fun _ _ h => h.elim)
    go_wp2_with (fail)
    refine (HP.out _).mono ?_
    rintro e w' ⟨rfl, rfl⟩
    go_wp2_with (fail)
    simp only [Exit.jump]
    go_ret3
    exact ⟨by rw [HE.out]; rfl, rfl⟩
  · have hp' : pl c = false := by simpa using hp
    rw [hp'] at HP
    by_cases h92 : c = 92
    · subst h92
      have HL : Hid (cb s.data.toList = cb2 (s.data.toList.drop 1)) := by
        show _ = _
        have := congrArg cb hl
        rw [this]; exact cb_esc _
      clear hl hp hp'
      go_enter Tryz.func145, Tryz.ntmps145
      go_wp2_with (fail)
      refine wp_scope_once 0 (JB s w) muB rfl (fun NX => ?_) ?_
      · go_wp2_with (fail)
        refine (HP.out _).mono ?_
        rintro e w' ⟨rfl, rfl⟩
        go_wp2_with (fail)
        go_step3
        rename_i hK
        exact hK _ _ (NX.out _ _ ⟨1, 0, _, _, _, _, _, _, _, _, _, _, _, _, _, _, _, _, _, _, _, _, _, _, _, _, _, _, _, _, _, _, _, _, _, _, by omega, .inl ⟨rfl, rfl, HL.out⟩, rfl, rfl⟩)
      · rintro a' w' ⟨k, n, u7, u8, u9, u10, u11, u12, u13, u14, u15, u16, u17, u18, u19, u20, u21, u22, u23, u24, u25, u26, u27, u28, u29, u30, u31, u32, u33, u34, u35, u36, u37, u38, u39, u40, hk, hcase, rfl, rfl⟩
        clear HL HP
        rcases hcase with ⟨rfl, rfl, hcb⟩ | ⟨rfl, hn, hcb⟩
        · have HC := Lib.hid hcb; clear hcb
          by_cases he : s.size = 1
          · have g0 : ((1 : Int) == (s.size : Int)) = true := by rw [beq_iff_eq]; omega
            have HE : Hid (cb s.data.toList = (0, 0, 2)) := by
              show _ = _
              rw [HC.out, List.drop_of_length_le (by simp; omega)]; rfl
            clear he
            go_wp2_with (fail)
            simp only [Exit.jump]
            go_ret3
            exact ⟨by rw [HE.out]; rfl, rfl⟩
          · have hlt : 1 < s.size := by omega
            have g0 : ((1 : Int) == (s.size : Int)) = false := by rw [beq_eq_false_iff_ne]; omega
            have HD := Lib.hid (drop_at hlt)
            obtain ⟨a, ha⟩ : ∃ a : UInt8, s[1] = a := ⟨_, rfl⟩
            rw [ha] at HD
            have HX := Lib.hid (digit_any a)
            clear he
            rcases sv_cases a with ea | ⟨m, hm, ea, _⟩
            · have HE : Hid (cb s.data.toList = (0, 0, 6)) := by
                show _ = _
                rw [HC.out, HD.out, cb2_cons, if_pos (by omega)]
              rw [ea] at HX; clear ea
              go_wp2_with (fail)
              refine (HX.out _).mono ?_
              rintro e w' ⟨rfl, rfl⟩
              go_wp2_with (fail)
              simp only [Exit.jump]
              go_ret3
              exact ⟨by rw [HE.out]; rfl, rfl⟩
            · have HE : Hid (cb s.data.toList = cb3 m (s.data.toList.drop 2)) := by
                show _ = _
                rw [HC.out, HD.out, cb2_cons, if_neg (by omega), ea]; rfl
              rw [ea] at HX; clear ea
              go_wp2_with (fail)
              refine (HX.out _).mono ?_
              rintro e w' ⟨rfl, rfl⟩
              go_wp2_with (fail)
              go_step3
              refine ⟨rfl, ⟨2, m, _, _, _, _, _, _, _, _, _, _, _, _, _, _, _, _, _, _, _, _, _, _, _, _, _, _, _, _, _, _, _, _, _, _, hlt, .inr ⟨rfl, hm, HE.out⟩, rfl, rfl⟩, ?_⟩
              simp [muB, intOf]
        · have HC := Lib.hid hcb; clear hcb
          by_cases he : s.size = 2
          · have g0 : ((2 : Int) == (s.size : Int)) = true := by rw [beq_iff_eq]; omega
            have HE : Hid (cb s.data.toList = (0, 0, 2)) := by
              show _ = _
              rw [HC.out, List.drop_of_length_le (by simp; omega)]; rfl
            clear he
            go_wp2_with (fail)
            simp only [Exit.jump]
            go_ret3
            exact ⟨by rw [HE.out]; rfl, rfl⟩
          · have hlt : 2 < s.size := by omega
            have g0 : ((2 : Int) == (s.size : Int)) = false := by rw [beq_eq_false_iff_ne]; omega
            have HD := Lib.hid (drop_at hlt)
            obtain ⟨a, ha⟩ : ∃ a : UInt8, s[2] = a := ⟨_, rfl⟩
            rw [ha] at HD
            have HX := Lib.hid (digit_any a)
            clear he
            rcases sv_cases a with ea | ⟨m, hm, ea, _⟩
            · have HE : Hid (cb s.data.toList = (0, 0, 6)) := by
                show _ = _
                rw [HC.out, HD.out, cb3_cons, if_pos (by omega)]
              rw [ea] at HX; clear ea
              go_wp2_with (fail)
              refine (HX.out _).mono ?_
              rintro e w' ⟨rfl, rfl⟩
              go_wp2_with (fail)
              simp only [Exit.jump]
              go_ret3
              exact ⟨by rw [HE.out]; rfl, rfl⟩
            · obtain ⟨d, hd⟩ : ∃ d : UInt8, UInt8.ofNat (16 * n + m) = d := ⟨_, rfl⟩
              have HE1 : Hid (cb s.data.toList = if pl d = true then (0, 0, 6) else (d, 3, 0)) := by
                show _ = _
                rw [HC.out, HD.out, cb3_cons, if_neg (by omega), ea, Int.toNat_natCast, hd]
              have HY : Hid (IntKind.u8.wrap (16 * (n : Int) + (m : Int)) = (d.toNat : Int)) := by
                show _ = _
                rw [← hd, u8_nat (by omega), IntWalk.u8_in _ (by omega)]; omega
              have HZ : Hid (16 * (n : Int) + (m : Int) = (d.toNat : Int)) := by
                show _ = _
                rw [← hd, u8_nat (by omega)]; omega
              have HPD := Lib.hid (plain_any d)
              rw [ea] at HX; clear ea hd
              rcases Bool.eq_false_or_eq_true (pl d) with hpd | hpd
              · have HE := Lib.hid (HE1.out.trans (if_pos hpd))
                rw [hpd] at HPD; clear hpd HE1
                go_wp2_with (fail)
                refine (HX.out _).mono ?_
                rintro e w' ⟨rfl, rfl⟩
                go_wp2_with (fail)
                rw [HZ.out]
                refine (HPD.out _).mono ?_
                rintro e w' ⟨rfl, rfl⟩
                go_wp2_with (fail)
                simp only [Exit.jump]
                go_ret3
                exact ⟨by rw [HE.out]; rfl, rfl⟩
              · have HE := Lib.hid (HE1.out.trans (if_neg (by rw [hpd]; decide)))
                rw [hpd] at HPD; clear hpd HE1
                go_wp2_with (fail)
                refine (HX.out _).mono ?_
                rintro e w' ⟨rfl, rfl⟩
                go_wp2_with (fail)
                rw [HZ.out]
                refine (HPD.out _).mono ?_
                rintro e w' ⟨rfl, rfl⟩
                go_wp2_with (fail)
                simp only [Exit.jump]
                go_ret3
                exact ⟨by rw [HE.out]; rfl, rfl⟩
    · have g1 : ((c.toNat : Int) != 92) = true := by
        rw [bne_iff_ne]
        intro e
        exact h92 (UInt8.toNat_inj.1 (show c.toNat = 92 by omega))
      have HE : Hid (cb s.data.toList = (0, 0, 6)) := by show _ = _; rw [hl]; exact cb_form _ hp' h92
      clear hl hp hp' h92
      go_enter Tryz.func145, Tryz.ntmps145
      go_wp2_with (fail)
      refine wp_scope_once 0 (fun _ _ => False) (fun _ _ => 0) rfl (fun NX => ?_) (fun _ _ h => h.elim)
      go_wp2_with (fail)
      refine (HP.out _).mono ?_
      rintro e w' ⟨rfl, rfl⟩
      go_wp2_with (fail)
      simp only [Exit.jump]
      go_ret3
      exact ⟨by rw [HE.out]; rfl, rfl⟩
end Go.Proofs.YtcdjincaedpodaaGreatDoor.Va
/-
  What cutDigits answers.
-/
namespace Go.Proofs.YtcdjincaedpodaaGreatDoor.Va
open Go.ChangeShapes Go.WideShapes Go.ChangeAt Go.RowKit Go.Proofs.YtcdjincaedpodaaGreatDoor.Ov Go.Proofs.YtcdjincaedpodaaGreatDoor.Tp

def JD (s : ByteArray) (w : World) (a' : Act) (w' : World) : Prop := ∃ (k n : Nat) (u7 u8 u9 u10 u11 u12 u13 u14 u15 u16 u17 u18 u19 u20 u21 u22 u23 u24 u25 u26 u27 u28 u29 u30 u31 u32 u33 u34 u35 u36 u37 u38 u39 u40 u41 u42 : Value),
  k ≤ s.size ∧ k ≤ tw s.data.toList ∧ n = sat (s.data.toList.take k) ∧ w' = w ∧
  a' = { tmps := #[.string s, undef, .int .i64 0, .int .i64 0, .int .i64 0, .int .i64 (n : Int), .int .i64 (k : Int), u7, u8, u9, u10, u11, u12, u13, u14, u15, u16, u17, u18, u19, u20, u21, u22, u23, u24, u25, u26, u27, u28, u29, u30, u31, u32, u33, u34, u35, u36, u37, u38, u39, u40, u41, u42], defers := [] }
def muD (s : ByteArray) (a : Act) (_ : World) : Nat := s.size - (intOf (a.tmps.getD 6 undef)).toNat
def cdv (r : Nat × Nat × Nat) : Value := .tuple #[.int .i64 (r.1 : Int), .int .i64 (r.2.1 : Int), .int .i64 (r.2.2 : Int)]
theorem sat_le (l : List UInt8) : sat l ≤ 9007199254740993 := by rw [sat_dv]; omega
theorem sat_take {s : ByteArray} {k : Nat} (h : k < s.size) : sat (s.data.toList.take (k + 1)) = min (10 * sat (s.data.toList.take k) + (s[k].toNat - 48)) 9007199254740993 := by
  rw [take_snoc s k h, sat_snoc]
theorem head_at {s : ByteArray} (h : 0 < s.size) : s.data.toList.head? = some s[0] := by
  have hl : 0 < s.data.toList.length := by simpa using h
  rw [List.head?_eq_getElem?, List.getElem?_eq_getElem hl]; rfl
theorem empty_of {s : ByteArray} (h : s.size = 0) : s.toList = [] := by
  rw [ByteArray.toList_eq]; exact List.eq_nil_of_length_eq_zero (by simpa using h)
theorem full_of {s : ByteArray} (h : s.size ≠ 0) : s.toList ≠ [] := by
  rw [ByteArray.toList_eq]; intro e
  have h1 := congrArg List.length e
  have h2 : s.data.toList.length = s.size := by simp
  rw [h2] at h1; exact h h1
/-- The end of cutDigits, behind k digits. -/
theorem cd_end {s : ByteArray} {k : Nat} (hk : tw s.data.toList = k) (hs : s.size ≠ 0) : cd s.data.toList = if k = 0 ∨ (1 < k ∧ (s[0]'(by omega)).toNat = 48) then (0, 0, 6) else (sat (s.data.toList.take k), k, 0) := by
  unfold cd
  rw [if_neg (by rw [← ByteArray.toList_eq]; exact full_of hs), hk, head_at (by omega)]
  have e : (some (s[0]'(by omega)) = some (48 : UInt8)) ↔ (s[0]'(by omega)).toNat = 48 := by
    constructor
    · intro h; rw [Option.some.inj h]; rfl
    · intro h; rw [UInt8.toNat_inj.1 (show (s[0]'(by omega)).toNat = (48 : UInt8).toNat from h)]
  simp only [e]
set_option maxRecDepth 100000 in
set_option maxHeartbeats 2000000 in
theorem cutDigits_any (s : ByteArray) (w : World) (hs : s.size ≤ 281474976710656) :
    Calls Tryz.prog 160 #[.string s] w fun e w' => e = .returned (cdv (cd s.data.toList)) ∧ w = w' := by
  go_enter Tryz.func160, Tryz.ntmps160
  go_wp2
  refine wp_scope_once 0 (JD s w) (muD s) rfl (fun NX => ?_) ?_
  · go_wp2_with (fail)
    go_step3
    rename_i hK
    exact hK _ _ (NX.out _ _ ⟨0, 0, _, _, _, _, _, _, _, _, _, _, _, _, _, _, _, _, _, _, _, _, _, _, _, _, _, _, _, _, _, _, _, _, _, _, _, _, by omega, by omega, by simp [sat], rfl, rfl⟩)
  · rintro a' w' ⟨k, n, u7, u8, u9, u10, u11, u12, u13, u14, u15, u16, u17, u18, u19, u20, u21, u22, u23, u24, u25, u26, u27, u28, u29, u30, u31, u32, u33, u34, u35, u36, u37, u38, u39, u40, u41, u42, hk, htw, hn, rfl, rfl⟩
    have HN := Lib.hid hn
    have hnb : n ≤ 9007199254740993 := by rw [hn]; exact sat_le _
    clear hn
    by_cases hd : ∃ h : k < s.size, dg s[k] = true
    · obtain ⟨hlt, hd⟩ := hd
      have HT := Lib.hid (tw_yes (l := s.data.toList) (k := k) (by simpa using hlt) htw hd)
      have HS := Lib.hid (sat_take hlt)
      obtain ⟨c, hc⟩ : ∃ c : UInt8, s[k] = c := ⟨_, rfl⟩
      rw [hc] at HS hd
      have HG := Lib.hid (isDigit_any c)
      rw [hd] at HG
      obtain ⟨b1, b2⟩ : 48 ≤ c.toNat ∧ c.toNat ≤ 57 := of_decide_eq_true hd
      clear hd htw
      go_wp2_with (fail)
      refine (HG.out _).mono ?_
      rintro e w' ⟨rfl, rfl⟩
      have HM : Hid (min (10 * (n : Int) + ((c.toNat : Int) - 48)) 9007199254740993 = ((min (10 * n + (c.toNat - 48)) 9007199254740993 : Nat) : Int)) := by show _ = _; omega
      go_wp2_with (fail)
      go_step3
      refine ⟨rfl, ⟨k + 1, min (10 * n + (c.toNat - 48)) 9007199254740993, _, _, _, _, _, _, _, _, _, _, _, _, _, _, _, _, _, _, _, _, _, _, _, _, _, _, _, _, _, _, _, _, _, _, _, _, by omega, HT.out, by rw [HS.out, ← HN.out], rfl, by rw [HM.out]; rfl⟩, ?_⟩
      simp [muD, intOf]; omega
    · have HK : Hid (tw s.data.toList = k) := by
        show _ = _
        by_cases hlt : k < s.size
        · exact tw_no (by simpa using hlt) htw (by
            rcases Bool.eq_false_or_eq_true (dg s[k]) with e | e
            · exact absurd ⟨hlt, e⟩ hd
            · exact e)
        · have := tw_le s.data.toList
          have h2 : s.data.toList.length = s.size := by simp
          omega
      clear htw
      by_cases hz : s.size = 0
      · have h1 := empty_of hz
        have h2 : ¬ (k : Int) < (s.size : Int) := by omega
        have HE : Hid (cd s.data.toList = (0, 0, 2)) := by
          show _ = _
          unfold cd; rw [if_pos (by rw [← ByteArray.toList_eq]; exact h1)]
        clear hd
        go_wp2_with (fail)
        simp only [Exit.jump]
        go_ret3
        exact ⟨by rw [HE.out]; rfl, rfl⟩
      · have h1 := full_of hz
        have h1' : s.toList.isEmpty = false := by simpa using h1
        have HC := Lib.hid (cd_end HK.out hz)
        have h3 : 0 < s.size := by omega
        obtain ⟨c0, hc0⟩ : ∃ c : UInt8, s[0]'h3 = c := ⟨_, rfl⟩
        rw [hc0] at HC
        by_cases k0 : k = 0
        · subst k0
          have HE : Hid (cd s.data.toList = (0, 0, 6)) := by
            show _ = _
            rw [HC.out, if_pos (.inl rfl)]
          clear HC HK
          have hdn : dg c0 = false := by
            rcases Bool.eq_false_or_eq_true (dg c0) with e | e
            · exact absurd ⟨h3, by rw [hc0]; exact e⟩ hd
            · exact e
          have HG := Lib.hid (isDigit_any c0)
          rw [hdn] at HG
          clear hdn hd
          go_wp2_with (fail)
          refine (HG.out _).mono ?_
          rintro e w' ⟨rfl, rfl⟩
          go_wp2_with (fail)
          simp only [Exit.jump]
          go_ret3
          exact ⟨by rw [HE.out]; rfl, rfl⟩
        · have g0 : ((k : Int) == 0) = false := by rw [beq_eq_false_iff_ne]; omega
          by_cases k1 : 1 < k
          · have g1 : (1 : Int) < (k : Int) := by omega
            by_cases k2 : c0.toNat = 48
            · have g2 : ((c0.toNat : Int) == 48) = true := by rw [beq_iff_eq]; omega
              have HE : Hid (cd s.data.toList = (0, 0, 6)) := by
                show _ = _
                rw [HC.out, if_pos (.inr ⟨k1, k2⟩)]
              clear HC HK k2
              by_cases hlt : k < s.size
              · have hdn : dg s[k] = false := by
                  rcases Bool.eq_false_or_eq_true (dg s[k]) with e | e
                  · exact absurd ⟨hlt, e⟩ hd
                  · exact e
                obtain ⟨c, hc⟩ : ∃ c : UInt8, s[k] = c := ⟨_, rfl⟩
                rw [hc] at hdn
                have HG := Lib.hid (isDigit_any c)
                rw [hdn] at HG
                clear hdn hd
                go_wp2_with (fail)
                refine (HG.out _).mono ?_
                rintro e w' ⟨rfl, rfl⟩
                go_wp2_with (fail)
                simp only [Exit.jump]
                go_ret3
                exact ⟨by rw [HE.out]; rfl, rfl⟩
              · clear hd
                go_wp2_with (fail)
                simp only [Exit.jump]
                go_ret3
                exact ⟨by rw [HE.out]; rfl, rfl⟩
            · have g2 : ((c0.toNat : Int) == 48) = false := by rw [beq_eq_false_iff_ne]; omega
              have HE : Hid (cd s.data.toList = (n, k, 0)) := by
                show _ = _
                rw [HC.out, if_neg (by omega), HN.out]
              clear HC HK k2
              by_cases hlt : k < s.size
              · have hdn : dg s[k] = false := by
                  rcases Bool.eq_false_or_eq_true (dg s[k]) with e | e
                  · exact absurd ⟨hlt, e⟩ hd
                  · exact e
                obtain ⟨c, hc⟩ : ∃ c : UInt8, s[k] = c := ⟨_, rfl⟩
                rw [hc] at hdn
                have HG := Lib.hid (isDigit_any c)
                rw [hdn] at HG
                clear hdn hd
                go_wp2_with (fail)
                refine (HG.out _).mono ?_
                rintro e w' ⟨rfl, rfl⟩
                go_wp2_with (fail)
                simp only [Exit.jump]
                go_ret3
                exact ⟨by rw [HE.out]; rfl, rfl⟩
              · clear hd
                go_wp2_with (fail)
                simp only [Exit.jump]
                go_ret3
                exact ⟨by rw [HE.out]; rfl, rfl⟩
          · have g1 : ¬ (1 : Int) < (k : Int) := by omega
            have HE : Hid (cd s.data.toList = (n, k, 0)) := by
              show _ = _
              rw [HC.out, if_neg (by omega), HN.out]
            clear HC HK
            by_cases hlt : k < s.size
            · have hdn : dg s[k] = false := by
                rcases Bool.eq_false_or_eq_true (dg s[k]) with e | e
                · exact absurd ⟨hlt, e⟩ hd
                · exact e
              obtain ⟨c, hc⟩ : ∃ c : UInt8, s[k] = c := ⟨_, rfl⟩
              rw [hc] at hdn
              have HG := Lib.hid (isDigit_any c)
              rw [hdn] at HG
              clear hdn hd
              go_wp2_with (fail)
              refine (HG.out _).mono ?_
              rintro e w' ⟨rfl, rfl⟩
              go_wp2_with (fail)
              simp only [Exit.jump]
              go_ret3
              exact ⟨by rw [HE.out]; rfl, rfl⟩
            · clear hd
              go_wp2_with (fail)
              simp only [Exit.jump]
              go_ret3
              exact ⟨by rw [HE.out]; rfl, rfl⟩
end Go.Proofs.YtcdjincaedpodaaGreatDoor.Va
/-
  Of any seat that holds strings.HasPrefix: what it answers of a text of one byte, by the shelf (laid in plain words; written by gen_lay.py).
-/
namespace Go.Proofs.YtcdjincaedpodaaGreatDoor.Ov
open Go.ChangeShapes Go.WideShapes Go.ChangeAt Go.RowKit Go.Shelf

def preRen : Ren := ⟨fun | 99 => 147 | 206 => 161 | n => n, fun | 3 => 3 | 4 => 4 | 9 => 9 | n => n, fun n => n⟩
theorem preLays : Lays.n99 Tryz.prog preRen :=
  { mixed := by kernel_rfl
    f99 := by kernel_rfl
    f206 := by kernel_rfl
    t3 := by kernel_rfl
    a3 := fun _ => by kernel_rfl
    z3 := fun _ => by kernel_rfl
    v3 := fun _ => by kernel_rfl
    t4 := by kernel_rfl
    a4 := fun _ => by kernel_rfl
    z4 := fun _ => by kernel_rfl
    v4 := fun _ => by kernel_rfl
    t9 := by kernel_rfl
    a9 := fun _ => by kernel_rfl
    z9 := fun _ => by kernel_rfl
    v9 := fun _ => by kernel_rfl }
theorem prefix_any (s : ByteArray) (c : UInt8) (w : World) :
    Calls Tryz.prog 147 #[.string s, .string ⟨#[c]⟩] w fun e w' => e = .returned (.bool (decide (s.data.toList.head? = some c))) ∧ w = w' :=
  (Any.strings_HasPrefix preLays s ⟨#[c]⟩ w).mono fun _ _ ⟨he, hw⟩ => ⟨by
    rw [he]
    have e : Lib.hasPrefix s.data.toList [c] = decide (s.data.toList.head? = some c) := by
      unfold Lib.hasPrefix
      cases s.data.toList with
      | nil => rfl
      | cons a t => rw [Bool.eq_iff_iff]; simp [List.isPrefixOf]; exact eq_comm
    exact congrArg (fun b => Ending.returned (.bool b)) e, hw.symm⟩
end Go.Proofs.YtcdjincaedpodaaGreatDoor.Ov
/-
  What cutWhole and cutNumbers answer.
-/
namespace Go.Proofs.YtcdjincaedpodaaGreatDoor.Va
open Go.ChangeShapes Go.WideShapes Go.ChangeAt Go.RowKit Go.Proofs.YtcdjincaedpodaaGreatDoor.Ov Go.Proofs.YtcdjincaedpodaaGreatDoor.Tp

def cwv (r : Int × Nat × Nat) : Value := .tuple #[.int .i64 r.1, .int .i64 (r.2.1 : Int), .int .i64 (r.2.2 : Int)]
theorem ext_list (s : ByteArray) (n : Nat) : (s.extract n s.size).data.toList = s.data.toList.drop n := by rw [ext_drop, tx_list]
theorem ext_size (s : ByteArray) (n : Nat) : (s.extract n s.size).size = s.size - n := by simp
set_option maxHeartbeats 1000000 in
theorem cutWhole_any (s : ByteArray) (w : World) (hs : s.size ≤ 281474976710656) :
    Calls Tryz.prog 146 #[.string s] w fun e w' => e = .returned (cwv (cw s.data.toList)) ∧ w = w' := by
  have HP := Lib.hid (prefix_any s 45)
  by_cases h : s.data.toList.head? = some 45
  · have hd : decide (s.data.toList.head? = some 45) = true := decide_eq_true h
    rw [hd] at HP
    have hsz : 1 ≤ s.size := by
      cases hl : s.data.toList with
      | nil => rw [hl] at h; simp at h
      | cons c t =>
        have := congrArg List.length hl
        simp at this; omega
    have HC := Lib.hid (cutDigits_any (s.extract 1 s.size))
    have HE : Hid (cw s.data.toList = if (cd (s.data.toList.drop 1)).2.2 ≠ 0 then (0, 0, (cd (s.data.toList.drop 1)).2.2) else if (cd (s.data.toList.drop 1)).1 = 0 then (0, 0, 6) else (-((cd (s.data.toList.drop 1)).1 : Int), (cd (s.data.toList.drop 1)).2.1 + 1, 0)) := by
      show _ = _
      unfold cw; rw [if_pos h, List.drop_one]
    have hz2 := ext_size s 1
    rw [ext_list] at HC
    clear h hd
    rcases cd_cases (s.data.toList.drop 1) with ⟨n, z, e⟩ | ⟨k, e, hk, hk'⟩
    · have hb := cd_zero e
      have hb2 : z ≤ s.size := by
        have := hb.2
        rw [List.length_drop] at this
        simp at this; omega
      rw [e] at HC HE
      have HE1 : Hid (cw s.data.toList = if n = 0 then (0, 0, 6) else (-(n : Int), z + 1, 0)) := HE.out.trans (if_neg (by simp))
      obtain ⟨hb1, _⟩ := hb
      clear e HE
      by_cases hn : n = 0
      · subst hn
        have HF := Lib.hid (HE1.out.trans (if_pos rfl))
        clear HE1
        go_enter Tryz.func146, Tryz.ntmps146
        go_wp2_with (fail)
        refine (HP.out _).mono ?_
        rintro e w' ⟨rfl, rfl⟩
        go_wp2_with (fail)
        refine (HC.out _ (by omega)).mono ?_
        rintro e w' ⟨rfl, rfl⟩
        unfold cdv
        go_wp2_with (fail)
        go_ret3
        exact ⟨by rw [HF.out]; rfl, rfl⟩
      · have HF := Lib.hid (HE1.out.trans (if_neg hn))
        have h0 : ((n : Int) == 0) = false := by rw [beq_eq_false_iff_ne]; omega
        clear HE1 hn
        go_enter Tryz.func146, Tryz.ntmps146
        go_wp2_with (fail)
        refine (HP.out _).mono ?_
        rintro e w' ⟨rfl, rfl⟩
        go_wp2_with (fail)
        refine (HC.out _ (by omega)).mono ?_
        rintro e w' ⟨rfl, rfl⟩
        unfold cdv
        go_wp2_with (fail)
        go_ret3
        exact ⟨by rw [HF.out]; rfl, rfl⟩
    · rw [e] at HC HE
      have HF : Hid (cw s.data.toList = (0, 0, k)) := HE.out.trans (if_pos (by show k ≠ 0; omega))
      have h0 : ((k : Int) != 0) = true := by rw [bne_iff_ne]; omega
      clear e HE
      go_enter Tryz.func146, Tryz.ntmps146
      go_wp2_with (fail)
      refine (HP.out _).mono ?_
      rintro e w' ⟨rfl, rfl⟩
      go_wp2_with (fail)
      refine (HC.out _ (by omega)).mono ?_
      rintro e w' ⟨rfl, rfl⟩
      unfold cdv
      go_wp2_with (fail)
      go_ret3
      exact ⟨by rw [HF.out]; rfl, rfl⟩
  · have hd : decide (s.data.toList.head? = some 45) = false := decide_eq_false h
    rw [hd] at HP
    have HC := Lib.hid (cutDigits_any s)
    have HE : Hid (cw s.data.toList = (((cd s.data.toList).1 : Int), (cd s.data.toList).2.1, (cd s.data.toList).2.2)) := if_neg h
    generalize cd s.data.toList = q at *
    obtain ⟨q1, q2, q3⟩ := q
    clear h hd
    go_enter Tryz.func146, Tryz.ntmps146
    go_wp2_with (fail)
    refine (HP.out _).mono ?_
    rintro e w' ⟨rfl, rfl⟩
    go_wp2_with (fail)
    refine (HC.out _ hs).mono ?_
    rintro e w' ⟨rfl, rfl⟩
    unfold cdv
    go_wp2_with (fail)
    go_ret3
    exact ⟨by rw [HE.out]; rfl, rfl⟩
end Go.Proofs.YtcdjincaedpodaaGreatDoor.Va
/-
  What cutNumbers answers (written by gen_vacut3.py).
-/
namespace Go.Proofs.YtcdjincaedpodaaGreatDoor.Va
open Go.ChangeShapes Go.WideShapes Go.ChangeAt Go.RowKit Go.Proofs.YtcdjincaedpodaaGreatDoor.Ov Go.Proofs.YtcdjincaedpodaaGreatDoor.Tp

/-- A value's value. -/
def vv (v : Va) : Value := .agg #[.int .i64 v.k, .int .i64 v.n, .string (tx v.s), .int .i64 v.x, .int .i64 v.y]
def prv (r : Va × Nat × Nat) : Value := .tuple #[vv r.1, .int .i64 (r.2.1 : Int), .int .i64 (r.2.2 : Int)]
set_option maxHeartbeats 1000000 in
theorem nums_err (s : ByteArray) (w : World) (hs : s.size ≤ 281474976710656) {k : Nat} (h : cw s.data.toList = (0, 0, k)) (hk : 0 < k) :
    Calls Tryz.prog 120 #[.string s] w (Gives (prv (vz, 0, k)) w) := by
  have HC := Lib.hid (cutWhole_any s); rw [h] at HC; clear h
  have h0 : ((k : Int) != 0) = true := by rw [bne_iff_ne]; omega
  go_enter Tryz.func120, Tryz.ntmps120
  go_wp2_with (fail)
  refine (HC.out _ hs).mono ?_
  rintro e w' ⟨rfl, rfl⟩
  unfold cwv
  go_wp2_with (fail)
  refine bodyPost_ret (v := prv (vz, 0, k)) (by simp [results, Tryz.results120, go_sem]; rfl) rfl ⟨rfl, ?_⟩
  exact box1 w _
set_option maxHeartbeats 2000000 in
theorem nums_one_yes (s : ByteArray) (w : World) (hs : s.size ≤ 281474976710656) {n : Int} {z : Nat} (h : cw s.data.toList = (n, z, 0)) (hz : z ≤ s.size) (hc : (s.data.toList.drop z).head? ≠ some 58) (hq : rt ⟨0, n, [], 0, 0⟩ = true) :
    Calls Tryz.prog 120 #[.string s] w (Gives (prv (⟨0, n, [], 0, 0⟩, z, 0)) w) := by
  have HC := Lib.hid (cutWhole_any s); rw [h] at HC; clear h
  have HP := Lib.hid (prefix_any (s.extract z s.size) 58)
  rw [ext_list, decide_eq_false hc] at HP; clear hc
  have HN := Lib.hid (number_any n)
  have HR : Hid (∀ w, Calls Tryz.prog 32 #[.agg #[.int .i64 0, .int .i64 n, .string ⟨#[]⟩, .int .i64 0, .int .i64 0]] w (Gives (.bool (rt ⟨0, n, [], 0, 0⟩)) w)) := right_val 0 n 0 0 ⟨#[]⟩
  rw [hq] at HR; clear hq
  go_enter Tryz.func120, Tryz.ntmps120
  go_wp2_with (fail)
  have kb := box1 w (.cells #[.int .i64 0, .int .i64 0, .string ⟨#[]⟩, .int .i64 0, .int .i64 0] 26)
  have R := Blk.made w 26 (vcs 0 0 ⟨#[]⟩ 0 0) rfl
  change Blk (w.alloc (.cells #[.int .i64 0, .int .i64 0, .string ⟨#[]⟩, .int .i64 0, .int .i64 0] 26)) w.heap.size _ at R
  generalize w.alloc (.cells #[.int .i64 0, .int .i64 0, .string ⟨#[]⟩, .int .i64 0, .int .i64 0] 26) = w0 at *
  refine (HC.out _ hs).mono ?_
  rintro e w' ⟨rfl, rfl⟩
  unfold cwv
  go_wp2_with (fail)
  refine (HN.out _).mono ?_
  rintro e w1 ⟨rfl, hb⟩
  have HB1 := Lib.hid ((Below.next kb hb).alloc (Below.next kb hb).size (.cells #[.int .i64 0, .int .i64 n, .string ⟨#[]⟩, .int .i64 0, .int .i64 0] 26))
  have R1 := Lib.hid ((R.next hb).old (.cells #[.int .i64 0, .int .i64 n, .string ⟨#[]⟩, .int .i64 0, .int .i64 0] 26))
  have D1 := Blk.made w1 26 (vcs 0 n ⟨#[]⟩ 0 0) rfl
  have hlo : w.heap.size < w1.heap.size := Nat.lt_of_lt_of_le R.lt hb.size
  clear hb kb R
  go_wp2_with (fail)
  change Blk (w1.alloc (.cells #[.int .i64 0, .int .i64 n, .string ⟨#[]⟩, .int .i64 0, .int .i64 0] 26)) w1.heap.size _ at D1
  generalize w1.alloc (.cells #[.int .i64 0, .int .i64 n, .string ⟨#[]⟩, .int .i64 0, .int .i64 0] 26) = w2 at *
  generalize w1.heap.size = d at *
  refine (HP.out _).mono ?_
  rintro e w' ⟨rfl, rfl⟩
  have c0 := D1.v0; have c1 := D1.v1; have c2 := D1.v2; have c3 := D1.v3; have c4 := D1.v4
  go_wp2_with (fail)
  clear c0 c1 c2 c3 c4
  refine (HR.out _).mono ?_
  rintro e w5 ⟨rfl, hb⟩
  have HB5 := Lib.hid (Below.next HB1.out hb)
  have R5 := R1.out.next hb
  have D5 := D1.next hb
  clear hb
  have c0 := D5.v0; have c1 := D5.v1; have c2 := D5.v2; have c3 := D5.v3; have c4 := D5.v4
  have r0 := R5.v0; have r1 := R5.v1; have r2 := R5.v2; have r3 := R5.v3; have r4 := R5.v4
  have f0 := R5.g0; have f1 := R5.g1; have f2 := R5.g2; have f3 := R5.g3; have f4 := R5.g4
  have RR := fun a0 a1 a2 a3 a4 => R5.all5 a0 a1 a2 a3 a4
  have RH := Lib.hid RR
  clear RR R5 D5
  go_wp2_with (fail)
  have RF := RH.out (.int .i64 0) (.int .i64 n) (.string ⟨#[]⟩) (.int .i64 0) (.int .i64 0)
  have c0 := RF.c 0 _ rfl; have c1 := RF.c 1 _ rfl; have c2 := RF.c 2 _ rfl; have c3 := RF.c 3 _ rfl; have c4 := RF.c 4 _ rfl
  clear RF
  refine bodyPost_ret (v := prv (⟨0, n, [], 0, 0⟩, z, 0)) (by simp [results, Tryz.results120, go_sem, c0, c1, c2, c3, c4]; rfl) rfl ⟨rfl, ?_⟩
  exact below_all5 HB5.out (Nat.le_refl _) _ _ _ _ _
set_option maxHeartbeats 2000000 in
theorem nums_one_no (s : ByteArray) (w : World) (hs : s.size ≤ 281474976710656) {n : Int} {z : Nat} (h : cw s.data.toList = (n, z, 0)) (hz : z ≤ s.size) (hc : (s.data.toList.drop z).head? ≠ some 58) (hq : rt ⟨0, n, [], 0, 0⟩ = false) :
    Calls Tryz.prog 120 #[.string s] w (Gives (prv (vz, 0, 14)) w) := by
  have HC := Lib.hid (cutWhole_any s); rw [h] at HC; clear h
  have HP := Lib.hid (prefix_any (s.extract z s.size) 58)
  rw [ext_list, decide_eq_false hc] at HP; clear hc
  have HN := Lib.hid (number_any n)
  have HR : Hid (∀ w, Calls Tryz.prog 32 #[.agg #[.int .i64 0, .int .i64 n, .string ⟨#[]⟩, .int .i64 0, .int .i64 0]] w (Gives (.bool (rt ⟨0, n, [], 0, 0⟩)) w)) := right_val 0 n 0 0 ⟨#[]⟩
  rw [hq] at HR; clear hq
  go_enter Tryz.func120, Tryz.ntmps120
  go_wp2_with (fail)
  have kb := box1 w (.cells #[.int .i64 0, .int .i64 0, .string ⟨#[]⟩, .int .i64 0, .int .i64 0] 26)
  have R := Blk.made w 26 (vcs 0 0 ⟨#[]⟩ 0 0) rfl
  change Blk (w.alloc (.cells #[.int .i64 0, .int .i64 0, .string ⟨#[]⟩, .int .i64 0, .int .i64 0] 26)) w.heap.size _ at R
  generalize w.alloc (.cells #[.int .i64 0, .int .i64 0, .string ⟨#[]⟩, .int .i64 0, .int .i64 0] 26) = w0 at *
  refine (HC.out _ hs).mono ?_
  rintro e w' ⟨rfl, rfl⟩
  unfold cwv
  go_wp2_with (fail)
  refine (HN.out _).mono ?_
  rintro e w1 ⟨rfl, hb⟩
  have HB1 := Lib.hid ((Below.next kb hb).alloc (Below.next kb hb).size (.cells #[.int .i64 0, .int .i64 n, .string ⟨#[]⟩, .int .i64 0, .int .i64 0] 26))
  have R1 := Lib.hid ((R.next hb).old (.cells #[.int .i64 0, .int .i64 n, .string ⟨#[]⟩, .int .i64 0, .int .i64 0] 26))
  have D1 := Blk.made w1 26 (vcs 0 n ⟨#[]⟩ 0 0) rfl
  have hlo : w.heap.size < w1.heap.size := Nat.lt_of_lt_of_le R.lt hb.size
  clear hb kb R
  go_wp2_with (fail)
  change Blk (w1.alloc (.cells #[.int .i64 0, .int .i64 n, .string ⟨#[]⟩, .int .i64 0, .int .i64 0] 26)) w1.heap.size _ at D1
  generalize w1.alloc (.cells #[.int .i64 0, .int .i64 n, .string ⟨#[]⟩, .int .i64 0, .int .i64 0] 26) = w2 at *
  generalize w1.heap.size = d at *
  refine (HP.out _).mono ?_
  rintro e w' ⟨rfl, rfl⟩
  have c0 := D1.v0; have c1 := D1.v1; have c2 := D1.v2; have c3 := D1.v3; have c4 := D1.v4
  go_wp2_with (fail)
  clear c0 c1 c2 c3 c4
  refine (HR.out _).mono ?_
  rintro e w5 ⟨rfl, hb⟩
  have HB5 := Lib.hid (Below.next HB1.out hb)
  have R5 := R1.out.next hb
  have D5 := D1.next hb
  clear hb
  have c0 := D5.v0; have c1 := D5.v1; have c2 := D5.v2; have c3 := D5.v3; have c4 := D5.v4
  have r0 := R5.v0; have r1 := R5.v1; have r2 := R5.v2; have r3 := R5.v3; have r4 := R5.v4
  have f0 := R5.g0; have f1 := R5.g1; have f2 := R5.g2; have f3 := R5.g3; have f4 := R5.g4
  have RR := fun a0 a1 a2 a3 a4 => R5.all5 a0 a1 a2 a3 a4
  have RH := Lib.hid RR
  clear RR R5 D5
  go_wp2_with (fail)
  have RF := RH.out (.int .i64 0) (.int .i64 0) (.string ⟨#[]⟩) (.int .i64 0) (.int .i64 0)
  have c0 := RF.c 0 _ rfl; have c1 := RF.c 1 _ rfl; have c2 := RF.c 2 _ rfl; have c3 := RF.c 3 _ rfl; have c4 := RF.c 4 _ rfl
  clear RF
  refine bodyPost_ret (v := prv (vz, 0, 14)) (by simp [results, Tryz.results120, go_sem, c0, c1, c2, c3, c4]; rfl) rfl ⟨rfl, ?_⟩
  exact below_all5 HB5.out (Nat.le_refl _) _ _ _ _ _
set_option maxHeartbeats 2000000 in
theorem nums_two_err (s : ByteArray) (w : World) (hs : s.size ≤ 281474976710656) {n : Int} {z : Nat} (h : cw s.data.toList = (n, z, 0)) (hz : z < s.size) (hc : (s.data.toList.drop z).head? = some 58) {k : Nat} (h2 : cw (s.data.toList.drop (z + 1)) = (0, 0, k)) (hk : 0 < k) :
    Calls Tryz.prog 120 #[.string s] w (Gives (prv (vz, 0, k)) w) := by
  have HC := Lib.hid (cutWhole_any s); rw [h] at HC; clear h
  have HP := Lib.hid (prefix_any (s.extract z s.size) 58)
  rw [ext_list, decide_eq_true hc] at HP; clear hc
  have HN := Lib.hid (number_any n)
  have HC2 := Lib.hid (cutWhole_any (s.extract (z + 1) s.size))
  rw [ext_list, h2] at HC2; clear h2
  have hz2 := ext_size s (z + 1)
  have h0 : ((k : Int) != 0) = true := by rw [bne_iff_ne]; omega
  go_enter Tryz.func120, Tryz.ntmps120
  go_wp2_with (fail)
  have kb := box1 w (.cells #[.int .i64 0, .int .i64 0, .string ⟨#[]⟩, .int .i64 0, .int .i64 0] 26)
  have R := Blk.made w 26 (vcs 0 0 ⟨#[]⟩ 0 0) rfl
  change Blk (w.alloc (.cells #[.int .i64 0, .int .i64 0, .string ⟨#[]⟩, .int .i64 0, .int .i64 0] 26)) w.heap.size _ at R
  generalize w.alloc (.cells #[.int .i64 0, .int .i64 0, .string ⟨#[]⟩, .int .i64 0, .int .i64 0] 26) = w0 at *
  refine (HC.out _ hs).mono ?_
  rintro e w' ⟨rfl, rfl⟩
  unfold cwv
  go_wp2_with (fail)
  refine (HN.out _).mono ?_
  rintro e w1 ⟨rfl, hb⟩
  have HB1 := Lib.hid ((Below.next kb hb).alloc (Below.next kb hb).size (.cells #[.int .i64 0, .int .i64 n, .string ⟨#[]⟩, .int .i64 0, .int .i64 0] 26))
  have R1 := Lib.hid ((R.next hb).old (.cells #[.int .i64 0, .int .i64 n, .string ⟨#[]⟩, .int .i64 0, .int .i64 0] 26))
  have D1 := Blk.made w1 26 (vcs 0 n ⟨#[]⟩ 0 0) rfl
  have hlo : w.heap.size < w1.heap.size := Nat.lt_of_lt_of_le R.lt hb.size
  clear hb kb R
  go_wp2_with (fail)
  change Blk (w1.alloc (.cells #[.int .i64 0, .int .i64 n, .string ⟨#[]⟩, .int .i64 0, .int .i64 0] 26)) w1.heap.size _ at D1
  generalize w1.alloc (.cells #[.int .i64 0, .int .i64 n, .string ⟨#[]⟩, .int .i64 0, .int .i64 0] 26) = w2 at *
  generalize w1.heap.size = d at *
  refine (HP.out _).mono ?_
  rintro e w' ⟨rfl, rfl⟩
  go_wp2_with (fail)
  refine (HC2.out _ (by omega)).mono ?_
  rintro e w' ⟨rfl, rfl⟩
  unfold cwv
  have r0 := R1.out.v0; have r1 := R1.out.v1; have r2 := R1.out.v2; have r3 := R1.out.v3; have r4 := R1.out.v4
  have f0 := R1.out.g0; have f1 := R1.out.g1; have f2 := R1.out.g2; have f3 := R1.out.g3; have f4 := R1.out.g4
  have HB5 := HB1
  have RR := fun a0 a1 a2 a3 a4 => R1.out.all5 a0 a1 a2 a3 a4
  have RH := Lib.hid RR
  clear RR D1 R1
  go_wp2_with (fail)
  have RF := RH.out (.int .i64 0) (.int .i64 0) (.string ⟨#[]⟩) (.int .i64 0) (.int .i64 0)
  have c0 := RF.c 0 _ rfl; have c1 := RF.c 1 _ rfl; have c2 := RF.c 2 _ rfl; have c3 := RF.c 3 _ rfl; have c4 := RF.c 4 _ rfl
  clear RF
  refine bodyPost_ret (v := prv (vz, 0, k)) (by simp [results, Tryz.results120, go_sem, c0, c1, c2, c3, c4]; rfl) rfl ⟨rfl, ?_⟩
  exact below_all5 HB5.out (Nat.le_refl _) _ _ _ _ _
set_option maxHeartbeats 2000000 in
theorem nums_two_yes (s : ByteArray) (w : World) (hs : s.size ≤ 281474976710656) {n : Int} {z : Nat} (h : cw s.data.toList = (n, z, 0)) (hz : z < s.size) (hc : (s.data.toList.drop z).head? = some 58) {y : Int} {m : Nat} (h2 : cw (s.data.toList.drop (z + 1)) = (y, m, 0)) (hm : m ≤ s.size) (hq : rt ⟨2, 0, [], n, y⟩ = true) :
    Calls Tryz.prog 120 #[.string s] w (Gives (prv (⟨2, 0, [], n, y⟩, z + 1 + m, 0)) w) := by
  have HC := Lib.hid (cutWhole_any s); rw [h] at HC; clear h
  have HP := Lib.hid (prefix_any (s.extract z s.size) 58)
  rw [ext_list, decide_eq_true hc] at HP; clear hc
  have HN := Lib.hid (number_any n)
  have HC2 := Lib.hid (cutWhole_any (s.extract (z + 1) s.size))
  rw [ext_list, h2] at HC2; clear h2
  have hz2 := ext_size s (z + 1)
  have HQ := Lib.hid (point_any n y)
  have HR : Hid (∀ w, Calls Tryz.prog 32 #[.agg #[.int .i64 2, .int .i64 0, .string ⟨#[]⟩, .int .i64 n, .int .i64 y]] w (Gives (.bool (rt ⟨2, 0, [], n, y⟩)) w)) := right_val 2 0 n y ⟨#[]⟩
  rw [hq] at HR; clear hq
  go_enter Tryz.func120, Tryz.ntmps120
  go_wp2_with (fail)
  have kb := box1 w (.cells #[.int .i64 0, .int .i64 0, .string ⟨#[]⟩, .int .i64 0, .int .i64 0] 26)
  have R := Blk.made w 26 (vcs 0 0 ⟨#[]⟩ 0 0) rfl
  change Blk (w.alloc (.cells #[.int .i64 0, .int .i64 0, .string ⟨#[]⟩, .int .i64 0, .int .i64 0] 26)) w.heap.size _ at R
  generalize w.alloc (.cells #[.int .i64 0, .int .i64 0, .string ⟨#[]⟩, .int .i64 0, .int .i64 0] 26) = w0 at *
  refine (HC.out _ hs).mono ?_
  rintro e w' ⟨rfl, rfl⟩
  unfold cwv
  go_wp2_with (fail)
  refine (HN.out _).mono ?_
  rintro e w1 ⟨rfl, hb⟩
  have HB1 := Lib.hid ((Below.next kb hb).alloc (Below.next kb hb).size (.cells #[.int .i64 0, .int .i64 n, .string ⟨#[]⟩, .int .i64 0, .int .i64 0] 26))
  have R1 := Lib.hid ((R.next hb).old (.cells #[.int .i64 0, .int .i64 n, .string ⟨#[]⟩, .int .i64 0, .int .i64 0] 26))
  have D1 := Blk.made w1 26 (vcs 0 n ⟨#[]⟩ 0 0) rfl
  have hlo : w.heap.size < w1.heap.size := Nat.lt_of_lt_of_le R.lt hb.size
  clear hb kb R
  go_wp2_with (fail)
  change Blk (w1.alloc (.cells #[.int .i64 0, .int .i64 n, .string ⟨#[]⟩, .int .i64 0, .int .i64 0] 26)) w1.heap.size _ at D1
  generalize w1.alloc (.cells #[.int .i64 0, .int .i64 n, .string ⟨#[]⟩, .int .i64 0, .int .i64 0] 26) = w2 at *
  generalize w1.heap.size = d at *
  refine (HP.out _).mono ?_
  rintro e w' ⟨rfl, rfl⟩
  go_wp2_with (fail)
  refine (HC2.out _ (by omega)).mono ?_
  rintro e w' ⟨rfl, rfl⟩
  unfold cwv
  go_wp2_with (fail)
  refine (HQ.out _).mono ?_
  rintro e w3 ⟨rfl, hb⟩
  have HB3 := Lib.hid (Below.next HB1.out hb)
  have R3 := R1.out.next hb
  have D3 := D1.next hb
  clear hb D1 R1 HB1
  have c0 := D3.v0; have c1 := D3.v1; have c2 := D3.v2; have c3 := D3.v3; have c4 := D3.v4
  have f0 := D3.g0; have f1 := D3.g1; have f2 := D3.g2; have f3 := D3.g3; have f4 := D3.g4
  have HB4 := Lib.hid (below_all5 HB3.out (b := d) (by omega) (.int .i64 2) (.int .i64 0) (.string ⟨#[]⟩) (.int .i64 n) (.int .i64 y))
  have D4 : Blk _ d (vcs 2 0 ⟨#[]⟩ n y) := D3.all5 (.int .i64 2) (.int .i64 0) (.string ⟨#[]⟩) (.int .i64 n) (.int .i64 y)
  have R4 := ((((R3.put (c := d) (by omega) 0 (.int .i64 2)).put (c := d) (by omega) 1 (.int .i64 0)).put (c := d) (by omega) 2 (.string ⟨#[]⟩)).put (c := d) (by omega) 3 (.int .i64 n)).put (c := d) (by omega) 4 (.int .i64 y)
  have D4H := Lib.hid D4
  have R4H := Lib.hid R4
  clear D4 R4 R3 D3 HB3
  go_wp2_with (fail)
  clear f0 f1 f2 f3 f4 c0 c1 c2 c3 c4
  generalize ((((w3.setCell ⟨d, 0, none⟩ (.int .i64 2)).setCell ⟨d, 1, none⟩ (.int .i64 0)).setCell ⟨d, 2, none⟩ (.string ⟨#[]⟩)).setCell ⟨d, 3, none⟩ (.int .i64 n)).setCell ⟨d, 4, none⟩ (.int .i64 y) = w4 at *
  refine (HR.out _).mono ?_
  rintro e w5 ⟨rfl, hb⟩
  have HB5 := Lib.hid (Below.next HB4.out hb)
  have R5 := R4H.out.next hb
  have D5 := D4H.out.next hb
  clear hb R4H D4H HB4
  have c0 := D5.v0; have c1 := D5.v1; have c2 := D5.v2; have c3 := D5.v3; have c4 := D5.v4
  have r0 := R5.v0; have r1 := R5.v1; have r2 := R5.v2; have r3 := R5.v3; have r4 := R5.v4
  have f0 := R5.g0; have f1 := R5.g1; have f2 := R5.g2; have f3 := R5.g3; have f4 := R5.g4
  have RR := fun a0 a1 a2 a3 a4 => R5.all5 a0 a1 a2 a3 a4
  have RH := Lib.hid RR
  clear RR R5 D5
  go_wp2_with (fail)
  have RF := RH.out (.int .i64 2) (.int .i64 0) (.string ⟨#[]⟩) (.int .i64 n) (.int .i64 y)
  have c0 := RF.c 0 _ rfl; have c1 := RF.c 1 _ rfl; have c2 := RF.c 2 _ rfl; have c3 := RF.c 3 _ rfl; have c4 := RF.c 4 _ rfl
  clear RF
  refine bodyPost_ret (v := prv (⟨2, 0, [], n, y⟩, z + 1 + m, 0)) (by simp [results, Tryz.results120, go_sem, c0, c1, c2, c3, c4]; rfl) rfl ⟨rfl, ?_⟩
  exact below_all5 HB5.out (Nat.le_refl _) _ _ _ _ _
set_option maxHeartbeats 2000000 in
theorem nums_two_no (s : ByteArray) (w : World) (hs : s.size ≤ 281474976710656) {n : Int} {z : Nat} (h : cw s.data.toList = (n, z, 0)) (hz : z < s.size) (hc : (s.data.toList.drop z).head? = some 58) {y : Int} {m : Nat} (h2 : cw (s.data.toList.drop (z + 1)) = (y, m, 0)) (hm : m ≤ s.size) (hq : rt ⟨2, 0, [], n, y⟩ = false) :
    Calls Tryz.prog 120 #[.string s] w (Gives (prv (vz, 0, 14)) w) := by
  have HC := Lib.hid (cutWhole_any s); rw [h] at HC; clear h
  have HP := Lib.hid (prefix_any (s.extract z s.size) 58)
  rw [ext_list, decide_eq_true hc] at HP; clear hc
  have HN := Lib.hid (number_any n)
  have HC2 := Lib.hid (cutWhole_any (s.extract (z + 1) s.size))
  rw [ext_list, h2] at HC2; clear h2
  have hz2 := ext_size s (z + 1)
  have HQ := Lib.hid (point_any n y)
  have HR : Hid (∀ w, Calls Tryz.prog 32 #[.agg #[.int .i64 2, .int .i64 0, .string ⟨#[]⟩, .int .i64 n, .int .i64 y]] w (Gives (.bool (rt ⟨2, 0, [], n, y⟩)) w)) := right_val 2 0 n y ⟨#[]⟩
  rw [hq] at HR; clear hq
  go_enter Tryz.func120, Tryz.ntmps120
  go_wp2_with (fail)
  have kb := box1 w (.cells #[.int .i64 0, .int .i64 0, .string ⟨#[]⟩, .int .i64 0, .int .i64 0] 26)
  have R := Blk.made w 26 (vcs 0 0 ⟨#[]⟩ 0 0) rfl
  change Blk (w.alloc (.cells #[.int .i64 0, .int .i64 0, .string ⟨#[]⟩, .int .i64 0, .int .i64 0] 26)) w.heap.size _ at R
  generalize w.alloc (.cells #[.int .i64 0, .int .i64 0, .string ⟨#[]⟩, .int .i64 0, .int .i64 0] 26) = w0 at *
  refine (HC.out _ hs).mono ?_
  rintro e w' ⟨rfl, rfl⟩
  unfold cwv
  go_wp2_with (fail)
  refine (HN.out _).mono ?_
  rintro e w1 ⟨rfl, hb⟩
  have HB1 := Lib.hid ((Below.next kb hb).alloc (Below.next kb hb).size (.cells #[.int .i64 0, .int .i64 n, .string ⟨#[]⟩, .int .i64 0, .int .i64 0] 26))
  have R1 := Lib.hid ((R.next hb).old (.cells #[.int .i64 0, .int .i64 n, .string ⟨#[]⟩, .int .i64 0, .int .i64 0] 26))
  have D1 := Blk.made w1 26 (vcs 0 n ⟨#[]⟩ 0 0) rfl
  have hlo : w.heap.size < w1.heap.size := Nat.lt_of_lt_of_le R.lt hb.size
  clear hb kb R
  go_wp2_with (fail)
  change Blk (w1.alloc (.cells #[.int .i64 0, .int .i64 n, .string ⟨#[]⟩, .int .i64 0, .int .i64 0] 26)) w1.heap.size _ at D1
  generalize w1.alloc (.cells #[.int .i64 0, .int .i64 n, .string ⟨#[]⟩, .int .i64 0, .int .i64 0] 26) = w2 at *
  generalize w1.heap.size = d at *
  refine (HP.out _).mono ?_
  rintro e w' ⟨rfl, rfl⟩
  go_wp2_with (fail)
  refine (HC2.out _ (by omega)).mono ?_
  rintro e w' ⟨rfl, rfl⟩
  unfold cwv
  go_wp2_with (fail)
  refine (HQ.out _).mono ?_
  rintro e w3 ⟨rfl, hb⟩
  have HB3 := Lib.hid (Below.next HB1.out hb)
  have R3 := R1.out.next hb
  have D3 := D1.next hb
  clear hb D1 R1 HB1
  have c0 := D3.v0; have c1 := D3.v1; have c2 := D3.v2; have c3 := D3.v3; have c4 := D3.v4
  have f0 := D3.g0; have f1 := D3.g1; have f2 := D3.g2; have f3 := D3.g3; have f4 := D3.g4
  have HB4 := Lib.hid (below_all5 HB3.out (b := d) (by omega) (.int .i64 2) (.int .i64 0) (.string ⟨#[]⟩) (.int .i64 n) (.int .i64 y))
  have D4 : Blk _ d (vcs 2 0 ⟨#[]⟩ n y) := D3.all5 (.int .i64 2) (.int .i64 0) (.string ⟨#[]⟩) (.int .i64 n) (.int .i64 y)
  have R4 := ((((R3.put (c := d) (by omega) 0 (.int .i64 2)).put (c := d) (by omega) 1 (.int .i64 0)).put (c := d) (by omega) 2 (.string ⟨#[]⟩)).put (c := d) (by omega) 3 (.int .i64 n)).put (c := d) (by omega) 4 (.int .i64 y)
  have D4H := Lib.hid D4
  have R4H := Lib.hid R4
  clear D4 R4 R3 D3 HB3
  go_wp2_with (fail)
  clear f0 f1 f2 f3 f4 c0 c1 c2 c3 c4
  generalize ((((w3.setCell ⟨d, 0, none⟩ (.int .i64 2)).setCell ⟨d, 1, none⟩ (.int .i64 0)).setCell ⟨d, 2, none⟩ (.string ⟨#[]⟩)).setCell ⟨d, 3, none⟩ (.int .i64 n)).setCell ⟨d, 4, none⟩ (.int .i64 y) = w4 at *
  refine (HR.out _).mono ?_
  rintro e w5 ⟨rfl, hb⟩
  have HB5 := Lib.hid (Below.next HB4.out hb)
  have R5 := R4H.out.next hb
  have D5 := D4H.out.next hb
  clear hb R4H D4H HB4
  have c0 := D5.v0; have c1 := D5.v1; have c2 := D5.v2; have c3 := D5.v3; have c4 := D5.v4
  have r0 := R5.v0; have r1 := R5.v1; have r2 := R5.v2; have r3 := R5.v3; have r4 := R5.v4
  have f0 := R5.g0; have f1 := R5.g1; have f2 := R5.g2; have f3 := R5.g3; have f4 := R5.g4
  have RR := fun a0 a1 a2 a3 a4 => R5.all5 a0 a1 a2 a3 a4
  have RH := Lib.hid RR
  clear RR R5 D5
  go_wp2_with (fail)
  have RF := RH.out (.int .i64 0) (.int .i64 0) (.string ⟨#[]⟩) (.int .i64 0) (.int .i64 0)
  have c0 := RF.c 0 _ rfl; have c1 := RF.c 1 _ rfl; have c2 := RF.c 2 _ rfl; have c3 := RF.c 3 _ rfl; have c4 := RF.c 4 _ rfl
  clear RF
  refine bodyPost_ret (v := prv (vz, 0, 14)) (by simp [results, Tryz.results120, go_sem, c0, c1, c2, c3, c4]; rfl) rfl ⟨rfl, ?_⟩
  exact below_all5 HB5.out (Nat.le_refl _) _ _ _ _ _
theorem rt_2 (n y : Int) : rt ⟨2, 0, [], n, y⟩ = true ∨ rt ⟨2, 0, [], n, y⟩ = false := by cases rt ⟨2, 0, [], n, y⟩ <;> simp
theorem rt_0 (n : Int) : rt ⟨0, n, [], 0, 0⟩ = true ∨ rt ⟨0, n, [], 0, 0⟩ = false := by cases rt ⟨0, n, [], 0, 0⟩ <;> simp
theorem cutNumbers_any (s : ByteArray) (w : World) (hs : s.size ≤ 281474976710656) : Calls Tryz.prog 120 #[.string s] w (Gives (prv (cnum s.data.toList)) w) := by
  have hl : s.data.toList.length = s.size := by simp
  rcases cw_cases s.data.toList with ⟨n, z, e, _, hz⟩ | ⟨k, e, hk, _⟩
  · by_cases hc : (s.data.toList.drop z).head? = some 58
    · have hz2 : z < s.size := by
        rcases Nat.lt_or_ge z s.size with h | h
        · exact h
        · rw [List.drop_of_length_le (by omega)] at hc; simp at hc
      rcases cw_cases (s.data.toList.drop (z + 1)) with ⟨y, m, e2, _, hm⟩ | ⟨k, e2, hk, _⟩
      · have hm2 : m ≤ s.size := by rw [List.length_drop] at hm; omega
        rcases rt_2 n y with hq | hq
        · have := nums_two_yes s w hs e hz2 hc e2 hm2 hq
          unfold cnum; simpa [e, hc, e2, hq] using this
        · have := nums_two_no s w hs e hz2 hc e2 hm2 hq
          unfold cnum; simpa [e, hc, e2, hq] using this
      · have := nums_two_err s w hs e hz2 hc e2 hk
        unfold cnum; simpa [e, hc, e2, Nat.ne_of_gt hk] using this
    · rcases rt_0 n with hq | hq
      · have ec : cnum s.data.toList = (⟨0, n, [], 0, 0⟩, z, 0) := by
          unfold cnum; rw [e]; exact (if_neg (fun h => h rfl)).trans ((if_neg hc).trans (if_pos hq))
        rw [ec]; exact nums_one_yes s w hs e (by omega) hc hq
      · have ec : cnum s.data.toList = (vz, 0, 14) := by
          unfold cnum; rw [e]; exact (if_neg (fun h => h rfl)).trans ((if_neg hc).trans (if_neg (by show ¬ rt ⟨0, n, [], 0, 0⟩ = true; rw [hq]; decide)))
        rw [ec]; exact nums_one_no s w hs e (by omega) hc hq
  · have := nums_err s w hs e hk
    unfold cnum; simpa [e, Nat.ne_of_gt hk] using this
end Go.Proofs.YtcdjincaedpodaaGreatDoor.Va
/-
  Of any seat that holds []byte: the text of a row of bytes.
-/
namespace Go.Proofs.YtcdjincaedpodaaGreatDoor.Ov
open Go.ChangeShapes Go.WideShapes Go.ChangeAt Go.RowKit
theorem info8 : (Tryz.prog.info? 5).map (fun i => (i.zero, i.size, i.bytes)) = some (some (.int .u8 0), 1, 1) := by kernel_rfl
/-- string(b), of a row of bytes. -/
theorem run_text {w : World} {b o c : Nat} {l : List UInt8} {m : Nat} (hm : m = l.length) (h : ∀ j (hj : j < l.length), w.cell? ⟨b, o + j, none⟩ = some (.int .u8 (l[j].toNat : Int))) :
    (convert 141 9 (.slice (some ⟨b, o, none⟩) m c)).run Tryz.prog w = .ok (.string (tx l)) w := by
  have := Lib.run_convert_whole (P := Tryz.prog) w 141 5 9 Tryz.underlying141 Tryz.underlying5 Tryz.underlying9 b o (tx l) (fun i hi => by
    rw [h i (by rwa [tx_size] at hi)]; rfl) c
  rw [tx_size, ← hm] at this
  exact this
end Go.Proofs.YtcdjincaedpodaaGreatDoor.Ov
/-
  Of any seat: rows of bytes of the call's own, appended to, and made a text.
-/
namespace Go.Proofs.YtcdjincaedpodaaGreatDoor.Ov
open Go.ChangeShapes Go.WideShapes Go.ChangeAt Go.RowKit

theorem step_own {P : Program} (w : World) {ops : Array Oper} {o : Oper} {a : Act} {K : Act → World → Prop} {Q : Exit → Act → World → Prop} {E : Prop} (hgd : o.guard = none) (s x : Operand) (t : TypeId)
    (ho : o.op = .call { callee := .builtin .append, args := #[s, x], argTypes := #[t, t] })
    (base : Nat) (e : TypeId) (i : TypeInfo) (z : Value) (size bytes : Nat) (ht : P.underlying t = some (.slice e)) (hi : P.info? e = some i) (hz : i.zero = some z)
    (hsize : i.size = size) (hby : i.bytes = bytes) (hzs : z.cells.size = size) (hsz : 0 < size)
    (v : Value) (n : Nat) (xs : List Value) (hs : a.eval s = v) (hown : w.ownsRow base e size v n xs)
    (ad : Addr) (m c : Nat) (news : List Value) (hx : a.eval x = .slice (some ad) m c) (hl : news.length = m * size) (hnews : ∀ j u, news[j]? = some u → w.cell? (ad.add j) = some u) (h1 : ∀ u ∈ news, u.oneCell' = true)
    (h63 : n + m ≤ maxLen) (hbytes : (n + m) * bytes ≤ 140737488355328) (hbase : base ≤ w.heap.size)
    (h : ∀ v' w', w'.ownsRow base e size v' (n + m) (xs ++ news) → w.grownBy w' v.ownBlock → (v' = .slice none 0 0 ↔ v = .slice none 0 0 ∧ m = 0) → K (a.put o.dst v') w') :
    if Region.wanted o (yielded ops a.tmps) = true then Oper.wp P o a w K Q else E := by
  have hw : Region.wanted o (yielded ops a.tmps) = true := by simp [Region.wanted, hgd]
  rw [if_pos hw]
  exact wp_append_own w s x t ho base e i z size bytes ht hi hz hsize hby hzs hsz v n xs hs hown ad m c news hx hl hnews h1 h63 hbytes hbase h
theorem one_news (w : World) (v : Value) (ty : TypeId) : ∀ j u, [v][j]? = some u → (w.alloc (.cells #[v] ty)).cell? ((⟨w.heap.size, 0, none⟩ : Addr).add j) = some u := by
  intro a u ha
  match a, ha with
  | 0, ha =>
    simp at ha; subst ha
    simp [Addr.add]
theorem one_one {v : Value} (h : v.oneCell' = true) : ∀ u ∈ [v], u.oneCell' = true := by
  intro u hu; simp at hu; subst hu; exact h
theorem one_base {w w' : World} (h : w.heap.size ≤ w'.heap.size) (o : Obj) : w.heap.size ≤ (w'.alloc o).heap.size := by simp; omega
/-- The cells of bytes. -/
def vals (l : List UInt8) : List Value := l.map fun b => Value.int .u8 (b.toNat : Int)
theorem vals_snoc (l : List UInt8) (b : UInt8) : vals (l ++ [b]) = vals l ++ [.int .u8 (b.toNat : Int)] := by simp [vals]
theorem vals_get (l : List UInt8) (j : Nat) (h : j < l.length) : (vals l)[j]? = some (.int .u8 (l[j].toNat : Int)) := by simp [vals, h]
/-- string(b), of a row of one's own, or of nil, whatever was made since. -/
theorem run_own_text {w : World} {base m : Nat} {v : Value} {l : List UInt8} (hm : m = l.length) (h : w.ownsRow base 5 1 v m (vals l)) (q : Over w) : (convert 141 9 v).run Tryz.prog q.val = .ok (.string (tx l)) q.val := by
  subst hm
  rcases h.2 with ⟨e1, e2⟩ | ⟨g, cap, cur, rfl, _⟩
  · subst e1
    have hl : l = [] := by
      cases l with
      | nil => rfl
      | cons b l => exact absurd e2 (by simp)
    subst hl
    rw [run_convert_bytes_nil q.val 141 5 Tryz.underlying141 Tryz.underlying5 0 0 9 Tryz.underlying9]
    rfl
  · exact run_text rfl fun j hj => over_cell q (by rw [Nat.zero_add, h.cellAt j (by omega)]; exact vals_get l j hj)
end Go.Proofs.YtcdjincaedpodaaGreatDoor.Ov
/-
  What cutText answers (written by gen_vatext.py).
-/
namespace Go.Proofs.YtcdjincaedpodaaGreatDoor.Va
open Go.ChangeShapes Go.WideShapes Go.ChangeAt Go.RowKit Go.Proofs.YtcdjincaedpodaaGreatDoor.Ov Go.Proofs.YtcdjincaedpodaaGreatDoor.Tp

theorem own_shape {w : World} {B m : Nat} {v : Value} {xs : List Value} (h : w.ownsRow B 5 1 v m xs) : ∃ a c, v = .slice a m c := by
  rcases h.2 with ⟨e1, e2⟩ | ⟨g, cap, cur, rfl, _⟩
  · subst e1
    have hm : m = 0 := by subst e2; simp
    subst hm; exact ⟨none, 0, rfl⟩
  · exact ⟨_, _, rfl⟩
/-- cutText's loop: so far the bytes A are read, of which no more than 4097 are kept; k bytes are behind. -/
def RelX (s : ByteArray) (w0 : World) (L : Value) (at_ : Value) (wr : World) : Prop :=
  ∃ (k : Nat) (A : List UInt8), 1 ≤ k ∧ k ≤ s.size ∧ at_ = .int .i64 (k : Int) ∧ ct s.data.toList.tail = pre A (k - 1) (ct (s.data.toList.drop k)) ∧
    wr.ownsRow w0.heap.size 5 1 L (A.take 4097).length (vals (A.take 4097)) ∧ Below w0.heap.size w0 wr
theorem ctx_of {l A : List UInt8} {k : Nat} {r : List UInt8 × Nat × Nat} (h : ct l.tail = pre A k r) : ctx l = if r.2.2 ≠ 0 then (vz, 0, r.2.2) else if 4096 < (A ++ r.1).length then (vz, 0, 3) else (⟨1, 0, A ++ r.1, 0, 0⟩, k + r.2.1 + 1, 0) := by
  unfold ctx; rw [h]; unfold pre
  by_cases h1 : r.2.2 ≠ 0
  · rw [if_pos h1, if_pos h1, if_pos h1]
  · rw [if_neg h1, if_neg h1, if_neg (fun h => h rfl)]
theorem take_add {A : List UInt8} (c : UInt8) (h : A.length ≤ 4096) : A.take 4097 ++ [c] = (A ++ [c]).take 4097 := by
  rw [List.take_of_length_le (by omega), List.take_of_length_le (by simp; omega)]
theorem take_full {A : List UInt8} (c : UInt8) (h : ¬ A.length ≤ 4096) : A.take 4097 = (A ++ [c]).take 4097 := by
  rw [List.take_append_of_le_length (by omega)]
set_option maxRecDepth 100000 in
set_option maxHeartbeats 4000000 in
theorem cutText_any (s : ByteArray) (w : World) (h0 : 0 < s.size) (hs : s.size ≤ 281474976710656) :
    Calls Tryz.prog 118 #[.string s] w (Gives (prv (ctx s.data.toList)) w) := by
  obtain ⟨i0, hi0, hz0, hz1, hz2⟩ := info_parts info8
  have HI := Lib.hid hi0; have HZ0 := Lib.hid hz0; have HZ1 := Lib.hid hz1; have HZ2 := Lib.hid hz2
  clear hi0 hz0 hz1 hz2
  go_enter Tryz.func118, Tryz.ntmps118
  go_wp2_with (fail)
  have KB := Lib.hid (box1 w (.cells #[.int .i64 0, .int .i64 0, .string ⟨#[]⟩, .int .i64 0, .int .i64 0] 26))
  have R := Blk.made w 26 (vcs 0 0 ⟨#[]⟩ 0 0) rfl
  change Blk (w.alloc (.cells #[.int .i64 0, .int .i64 0, .string ⟨#[]⟩, .int .i64 0, .int .i64 0] 26)) w.heap.size _ at R
  have HR := Lib.hid R; clear R
  generalize w.alloc (.cells #[.int .i64 0, .int .i64 0, .string ⟨#[]⟩, .int .i64 0, .int .i64 0] 26) = w0 at *
  go_loopw [5, 6] (fun L at_ wr => RelX s w0 L at_ wr) (fun _ at_ _ => s.size - (intOf at_).toNat)
  case atStart => exact ⟨1, [], Nat.le_refl _, h0, rfl, by rw [List.drop_one]; exact (pre_nil (ct_norm _)).symm, World.ownsRow_nil _ _ _ _, Below.refl _ _⟩
  case round =>
    obtain ⟨k, A, hk1, hk, rfl, hct, ho, hb⟩ := hrel
    obtain ⟨a, c, rfl⟩ := own_shape ho
    have HC := Lib.hid hct; have HO := Lib.hid ho; have HB := Lib.hid hb
    have R1 := HR.out.next hb
    clear hct ho hb
    have hB0 : w0.heap.size ≤ wr.heap.size := HB.out.size
    by_cases hlt : k < s.size
    · have HD := Lib.hid (drop_at hlt)
      obtain ⟨q, hq⟩ : ∃ q : UInt8, s[k] = q := ⟨_, rfl⟩
      rw [hq] at HD
      by_cases h34 : q = 34
      · subst h34
        have HE1 : Hid (ctx s.data.toList = if 4096 < A.length then (vz, 0, 3) else (⟨1, 0, A, 0, 0⟩, k + 1, 0)) := by
          show _ = _
          rw [ctx_of HC.out, HD.out, ct_quote, if_neg (fun h => h rfl)]
          dsimp only
          rw [List.append_nil, show k - 1 + 1 + 1 = k + 1 by omega]
        have hlen : (A.take 4097).length = min 4097 A.length := List.length_take
        rw [hlen] at HO ⊢
        clear hlen
        by_cases hA : 4096 < A.length
        · have HE := Lib.hid (HE1.out.trans (if_pos hA))
          have hm : min 4097 A.length = 4097 := by omega
          rw [hm] at HO ⊢
          clear hm hA HE1
          have r0 := R1.v0; have r1 := R1.v1; have r2 := R1.v2; have r3 := R1.v3; have r4 := R1.v4
          have f0 := R1.g0; have f1 := R1.g1; have f2 := R1.g2; have f3 := R1.g3; have f4 := R1.g4
          have RH := Lib.hid (fun a0 a1 a2 a3 a4 => R1.all5 a0 a1 a2 a3 a4)
          clear R1
          go_wp2_with (fail)
          have RF := RH.out (.int .i64 0) (.int .i64 0) (.string ⟨#[]⟩) (.int .i64 0) (.int .i64 0)
          have c0 := RF.c 0 _ rfl; have c1 := RF.c 1 _ rfl; have c2 := RF.c 2 _ rfl; have c3 := RF.c 3 _ rfl; have c4 := RF.c 4 _ rfl
          clear RF
          rw [HE.out]
          refine bodyPost_ret (v := prv (vz, 0, 3)) (by simp [results, Tryz.results118, go_sem, c0, c1, c2, c3, c4]; rfl) rfl ⟨rfl, ?_⟩
          exact below_all5 (Below.next KB.out HB.out) (Nat.le_refl _) _ _ _ _ _
        · have HE := Lib.hid (HE1.out.trans (if_neg hA))
          have hm : min 4097 A.length = A.length := by omega
          have ht : A.take 4097 = A := List.take_of_length_le (by omega)
          rw [hm] at HO ⊢
          rw [ht] at HO
          have hcv := run_own_text rfl HO.out ⟨wr, Below.refl _ _⟩
          have hn : ¬ (4096 : Int) < (A.length : Int) := by omega
          have hn2 : ¬ 4096 < A.length := hA
          clear hm hA ht HE1
          go_wp2_with (fail)
          refine (text_any (tx A) _).mono ?_
          rintro e w1 ⟨rfl, hb⟩
          have HB1 := Lib.hid (Below.next KB.out (Below.next HB.out hb))
          have R2 := R1.next hb
          clear hb R1 hcv
          have r0 := R2.v0; have r1 := R2.v1; have r2 := R2.v2; have r3 := R2.v3; have r4 := R2.v4
          have f0 := R2.g0; have f1 := R2.g1; have f2 := R2.g2; have f3 := R2.g3; have f4 := R2.g4
          have RH := Lib.hid (fun a0 a1 a2 a3 a4 => R2.all5 a0 a1 a2 a3 a4)
          clear R2
          go_wp2_with (fail)
          have RF := RH.out (.int .i64 1) (.int .i64 0) (.string (tx A)) (.int .i64 0) (.int .i64 0)
          have c0 := RF.c 0 _ rfl; have c1 := RF.c 1 _ rfl; have c2 := RF.c 2 _ rfl; have c3 := RF.c 3 _ rfl; have c4 := RF.c 4 _ rfl
          clear RF
          rw [HE.out]
          refine bodyPost_ret (v := prv (⟨1, 0, A, 0, 0⟩, k + 1, 0)) (by simp [results, Tryz.results118, go_sem, c0, c1, c2, c3, c4]; rfl) rfl ⟨rfl, ?_⟩
          exact below_all5 (HB1.out) (Nat.le_refl _) _ _ _ _ _
      · have g34 : ((q.toNat : Int) == 34) = false := by
          rw [beq_eq_false_iff_ne]
          intro e
          exact h34 (UInt8.toNat_inj.1 (show q.toNat = 34 by omega))
        have hh : (s.data.toList.drop k).head? ≠ some 34 := by rw [HD.out]; exact fun e => h34 (Option.some.inj e)
        have hne : s.data.toList.drop k ≠ [] := by rw [HD.out]; simp
        have HY := Lib.hid (cutByte_any (s.extract k s.size))
        have hz2 := ext_size s k
        rw [ext_list] at HY
        clear HD h34
        rcases cb_cases (s.data.toList.drop k) with ⟨d, z, e, hz, hz3⟩ | ⟨m, e, hm, _⟩
        · rw [e] at HY
          have HC1 : Hid (ct s.data.toList.tail = pre (A ++ [d]) (k + z - 1) (ct (s.data.toList.drop (k + z)))) := by
            show _ = _
            rw [HC.out, ct_step hh e hz, pre_pre, List.drop_drop, show k - 1 + z = k + z - 1 by omega]
          have hkz : k + z ≤ s.size := by
            rw [List.length_drop] at hz3
            have : s.data.toList.length = s.size := by simp
            omega
          clear e hh hne hz3 HC
          by_cases hA : A.length ≤ 4096
          · have ht : A.take 4097 = A := List.take_of_length_le (by omega)
            rw [ht] at HO ⊢
            have hn : (A.length : Int) ≤ 4096 := by omega
            clear ht
            go_wp2_with (fail)
            refine (HY.out _ (by omega) (by omega)).mono ?_
            rintro e w' ⟨rfl, rfl⟩
            unfold cbv
            go_wp2_with (at_builtin; refine wpList_append_own _ rfl _ _ 141 rfl w0.heap.size 5 i0 (.int .u8 0) 1 1 Tryz.underlying141 HI.out HZ0.out HZ1.out HZ2.out rfl (by decide) _ _ _ rfl (HO.out.alloc _) ⟨wr.heap.size, 0, none⟩ 1 1 [.int .u8 (d.toNat : Int)] rfl rfl (one_news wr _ _) (one_one rfl) ?c3 ?c4 ?c5 ?_)
            case c3 => unfold maxLen; omega
            case c4 => omega
            case c5 => exact Nat.le_trans hB0 (by simp)
            intro v' w1 hown' hgrow _
            have HN : Hid (w1.ownsRow w0.heap.size 5 1 v' ((A ++ [d]).take 4097).length (vals ((A ++ [d]).take 4097))) := by
              show World.ownsRow _ _ _ _ _ _ _
              rw [← take_add d hA, List.take_of_length_le (show A.length ≤ 4097 by omega), vals_snoc, List.length_append]; exact hown'
            have HB1 : Hid (Below w0.heap.size w0 w1) := (HB.out.alloc HB.out.size _).grown hgrow (Nat.le_trans hB0 (by simp)) (fun g e => (HO.out.lt g e).1)
            clear hown' hgrow
            go_wp2
            go_roundw
            case rel => exact ⟨k + z, A ++ [d], by omega, hkz, by go_num, HC1.out, HN.out, HB1.out⟩
            case measure => simp [intOf]; omega
          · have hlen : (A.take 4097).length = 4097 := by rw [List.length_take]; omega
            have HO2 : Hid (wr.ownsRow w0.heap.size 5 1 (.slice a 4097 c) ((A ++ [d]).take 4097).length (vals ((A ++ [d]).take 4097))) := by
              show World.ownsRow _ _ _ _ _ _ _
              have := HO.out
              rw [take_full d hA] at this
              rw [take_full d hA] at hlen
              rw [hlen] at this ⊢; exact this
            rw [hlen] at HO ⊢
            clear hlen
            go_wp2_with (fail)
            refine (HY.out _ (by omega) (by omega)).mono ?_
            rintro e w' ⟨rfl, rfl⟩
            unfold cbv
            go_wp2_with (fail)
            go_roundw
            case rel => exact ⟨k + z, A ++ [d], by omega, hkz, by go_num, HC1.out, HO2.out, HB.out⟩
            case measure => simp [intOf]; omega
        · rw [e] at HY
          have HE : Hid (ctx s.data.toList = (vz, 0, m)) := by
            show _ = _
            rw [ctx_of HC.out, ct_bad hne hh e hm]
            exact if_pos (by show m ≠ 0; omega)
          have g0 : ((m : Int) != 0) = true := by rw [bne_iff_ne]; omega
          clear e hh hne HC
          have r0 := R1.v0; have r1 := R1.v1; have r2 := R1.v2; have r3 := R1.v3; have r4 := R1.v4
          have f0 := R1.g0; have f1 := R1.g1; have f2 := R1.g2; have f3 := R1.g3; have f4 := R1.g4
          have RH := Lib.hid (fun a0 a1 a2 a3 a4 => R1.all5 a0 a1 a2 a3 a4)
          clear R1
          go_wp2_with (fail)
          refine (HY.out _ (by omega) (by omega)).mono ?_
          rintro e w' ⟨rfl, rfl⟩
          unfold cbv
          go_wp2_with (fail)
          have RF := RH.out (.int .i64 0) (.int .i64 0) (.string ⟨#[]⟩) (.int .i64 0) (.int .i64 0)
          have c0 := RF.c 0 _ rfl; have c1 := RF.c 1 _ rfl; have c2 := RF.c 2 _ rfl; have c3 := RF.c 3 _ rfl; have c4 := RF.c 4 _ rfl
          clear RF
          rw [HE.out]
          refine bodyPost_ret (v := prv (vz, 0, m)) (by simp [results, Tryz.results118, go_sem, c0, c1, c2, c3, c4]; rfl) rfl ⟨rfl, ?_⟩
          exact below_all5 (Below.next KB.out HB.out) (Nat.le_refl _) _ _ _ _ _
    · have HE : Hid (ctx s.data.toList = (vz, 0, 2)) := by
        show _ = _
        rw [ctx_of HC.out, List.drop_of_length_le (by simp; omega), ct_nil]
        exact if_pos (by decide)
      clear HC
      have r0 := R1.v0; have r1 := R1.v1; have r2 := R1.v2; have r3 := R1.v3; have r4 := R1.v4
      have f0 := R1.g0; have f1 := R1.g1; have f2 := R1.g2; have f3 := R1.g3; have f4 := R1.g4
      have RH := Lib.hid (fun a0 a1 a2 a3 a4 => R1.all5 a0 a1 a2 a3 a4)
      clear R1
      go_wp2_with (fail)
      have RF := RH.out (.int .i64 0) (.int .i64 0) (.string ⟨#[]⟩) (.int .i64 0) (.int .i64 0)
      have c0 := RF.c 0 _ rfl; have c1 := RF.c 1 _ rfl; have c2 := RF.c 2 _ rfl; have c3 := RF.c 3 _ rfl; have c4 := RF.c 4 _ rfl
      clear RF
      rw [HE.out]
      refine bodyPost_ret (v := prv (vz, 0, 2)) (by simp [results, Tryz.results118, go_sem, c0, c1, c2, c3, c4]; rfl) rfl ⟨rfl, ?_⟩
      exact below_all5 (Below.next KB.out HB.out) (Nat.le_refl _) _ _ _ _ _
end Go.Proofs.YtcdjincaedpodaaGreatDoor.Va
/-
  What Parse answers of any text.
-/
namespace Go.Proofs.YtcdjincaedpodaaGreatDoor.Va
open Go.ChangeShapes Go.WideShapes Go.ChangeAt Go.RowKit Go.Proofs.YtcdjincaedpodaaGreatDoor.Ov Go.Proofs.YtcdjincaedpodaaGreatDoor.Tp

theorem prv_box {w : World} {b : Nat} (h : Blk w b (vcs 0 0 ⟨#[]⟩ 0 0)) (v : Va) : Blk (((((w.setCell ⟨b, 0, none⟩ (.int .i64 v.k)).setCell ⟨b, 1, none⟩ (.int .i64 v.n)).setCell ⟨b, 2, none⟩ (.string (tx v.s))).setCell ⟨b, 3, none⟩ (.int .i64 v.x)).setCell ⟨b, 4, none⟩ (.int .i64 v.y)) b [.int .i64 v.k, .int .i64 v.n, .string (tx v.s), .int .i64 v.x, .int .i64 v.y] := h.all5 _ _ _ _ _
set_option maxHeartbeats 2000000 in
theorem parse_any (s : ByteArray) (w : World) (hs : s.size ≤ 281474976710656) :
    Calls Tryz.prog 74 #[.string s] w (Gives (prv (pz s.data.toList)) w) := by
  by_cases hz : s.size = 0
  · have h1 := empty_of hz
    have h1' : s.toList.isEmpty = true := by rw [h1]; rfl
    have HE : Hid (pz s.data.toList = (vz, 0, 10)) := by
      show _ = _
      rw [← ByteArray.toList_eq, h1]; unfold pz; simp
    go_enter Tryz.func74, Tryz.ntmps74
    go_wp2_with (fail)
    rw [HE.out]
    refine bodyPost_ret (v := prv (vz, 0, 10)) (by simp [results, Tryz.results74, go_sem]; rfl) rfl ⟨rfl, ?_⟩
    exact box1 w _
  · have h1 := full_of hz
    have h1' : s.toList.isEmpty = false := by simpa using h1
    have h3 : 0 < s.size := by omega
    have HH := Lib.hid (head_at h3)
    obtain ⟨c, hc⟩ : ∃ c : UInt8, s[0]'h3 = c := ⟨_, rfl⟩
    rw [hc] at HH
    have HP : Hid (pz s.data.toList = if c = 34 then ctx s.data.toList else if c = 45 ∨ dg c = true then cnum s.data.toList else (vz, 0, 10)) := by
      show _ = _
      unfold pz; rw [HH.out]; simp
    by_cases h34 : c = 34
    · subst h34
      have HE := Lib.hid (HP.out.trans (if_pos rfl))
      have HC := Lib.hid (cutText_any s)
      clear HP HH hz
      rw [HE.out]
      generalize ctx s.data.toList = r at *
      obtain ⟨v, z, k⟩ := r
      go_enter Tryz.func74, Tryz.ntmps74
      go_wp2_with (fail)
      have KB := Lib.hid (box1 w (.cells #[.int .i64 0, .int .i64 0, .string ⟨#[]⟩, .int .i64 0, .int .i64 0] 26))
      have R := Blk.made w 26 (vcs 0 0 ⟨#[]⟩ 0 0) rfl
      change Blk (w.alloc (.cells #[.int .i64 0, .int .i64 0, .string ⟨#[]⟩, .int .i64 0, .int .i64 0] 26)) w.heap.size _ at R
      generalize w.alloc (.cells #[.int .i64 0, .int .i64 0, .string ⟨#[]⟩, .int .i64 0, .int .i64 0] 26) = w0 at *
      refine (HC.out _ h3 hs).mono ?_
      rintro e w1 ⟨rfl, hb⟩
      have HB1 := Lib.hid (Below.next KB.out hb)
      have R1 := R.next hb
      clear hb R KB
      unfold prv vv
      have r0 := R1.v0; have r1 := R1.v1; have r2 := R1.v2; have r3 := R1.v3; have r4 := R1.v4
      have f0 := R1.g0; have f1 := R1.g1; have f2 := R1.g2; have f3 := R1.g3; have f4 := R1.g4
      have RH := Lib.hid (prv_box R1 v)
      clear R1
      go_wp2_with (fail)
      have RF := RH.out
      have c0 := RF.c 0 _ rfl; have c1 := RF.c 1 _ rfl; have c2 := RF.c 2 _ rfl; have c3 := RF.c 3 _ rfl; have c4 := RF.c 4 _ rfl
      clear RF
      refine bodyPost_ret (v := .tuple #[.agg #[.int .i64 v.k, .int .i64 v.n, .string (tx v.s), .int .i64 v.x, .int .i64 v.y], .int .i64 (z : Int), .int .i64 (k : Int)]) (by simp [results, Tryz.results74, go_sem, c0, c1, c2, c3, c4]) rfl ⟨rfl, ?_⟩
      exact below_all5 HB1.out (Nat.le_refl _) _ _ _ _ _
    · have g34 : ((c.toNat : Int) == 34) = false := by
        rw [beq_eq_false_iff_ne]
        intro e
        exact h34 (UInt8.toNat_inj.1 (show c.toNat = 34 by omega))
      have HE1 := Lib.hid (HP.out.trans (if_neg h34))
      have HC := Lib.hid (cutNumbers_any s)
      have HG := Lib.hid (isDigit_any c)
      clear HP HH hz h34
      by_cases h45 : c = 45
      · subst h45
        have HE := Lib.hid (HE1.out.trans (if_pos (.inl rfl)))
        clear HE1 HG
        rw [HE.out]
        generalize cnum s.data.toList = r at *
        obtain ⟨v, z, k⟩ := r
        go_enter Tryz.func74, Tryz.ntmps74
        go_wp2_with (fail)
        have KB := Lib.hid (box1 w (.cells #[.int .i64 0, .int .i64 0, .string ⟨#[]⟩, .int .i64 0, .int .i64 0] 26))
        have R := Blk.made w 26 (vcs 0 0 ⟨#[]⟩ 0 0) rfl
        change Blk (w.alloc (.cells #[.int .i64 0, .int .i64 0, .string ⟨#[]⟩, .int .i64 0, .int .i64 0] 26)) w.heap.size _ at R
        generalize w.alloc (.cells #[.int .i64 0, .int .i64 0, .string ⟨#[]⟩, .int .i64 0, .int .i64 0] 26) = w0 at *
        refine (HC.out _ hs).mono ?_
        rintro e w1 ⟨rfl, hb⟩
        have HB1 := Lib.hid (Below.next KB.out hb)
        have R1 := R.next hb
        clear hb R KB
        unfold prv vv
        have r0 := R1.v0; have r1 := R1.v1; have r2 := R1.v2; have r3 := R1.v3; have r4 := R1.v4
        have f0 := R1.g0; have f1 := R1.g1; have f2 := R1.g2; have f3 := R1.g3; have f4 := R1.g4
        have RH := Lib.hid (prv_box R1 v)
        clear R1
        go_wp2_with (fail)
        have RF := RH.out
        have c0 := RF.c 0 _ rfl; have c1 := RF.c 1 _ rfl; have c2 := RF.c 2 _ rfl; have c3 := RF.c 3 _ rfl; have c4 := RF.c 4 _ rfl
        clear RF
        refine bodyPost_ret (v := .tuple #[.agg #[.int .i64 v.k, .int .i64 v.n, .string (tx v.s), .int .i64 v.x, .int .i64 v.y], .int .i64 (z : Int), .int .i64 (k : Int)]) (by simp [results, Tryz.results74, go_sem, c0, c1, c2, c3, c4]) rfl ⟨rfl, ?_⟩
        exact below_all5 HB1.out (Nat.le_refl _) _ _ _ _ _
      · have g45 : ((c.toNat : Int) == 45) = false := by
          rw [beq_eq_false_iff_ne]
          intro e
          exact h45 (UInt8.toNat_inj.1 (show c.toNat = 45 by omega))
        rcases Bool.eq_false_or_eq_true (dg c) with hd | hd
        · have HE := Lib.hid (HE1.out.trans (if_pos (.inr hd)))
          rw [hd] at HG
          clear HE1 h45 hd
          rw [HE.out]
          generalize cnum s.data.toList = r at *
          obtain ⟨v, z, k⟩ := r
          go_enter Tryz.func74, Tryz.ntmps74
          go_wp2_with (fail)
          have KB := Lib.hid (box1 w (.cells #[.int .i64 0, .int .i64 0, .string ⟨#[]⟩, .int .i64 0, .int .i64 0] 26))
          have R := Blk.made w 26 (vcs 0 0 ⟨#[]⟩ 0 0) rfl
          change Blk (w.alloc (.cells #[.int .i64 0, .int .i64 0, .string ⟨#[]⟩, .int .i64 0, .int .i64 0] 26)) w.heap.size _ at R
          generalize w.alloc (.cells #[.int .i64 0, .int .i64 0, .string ⟨#[]⟩, .int .i64 0, .int .i64 0] 26) = w0 at *
          refine (HG.out _).mono ?_
          rintro e w' ⟨rfl, rfl⟩
          go_wp2_with (fail)
          refine (HC.out _ hs).mono ?_
          rintro e w1 ⟨rfl, hb⟩
          have HB1 := Lib.hid (Below.next KB.out hb)
          have R1 := R.next hb
          clear hb R KB
          unfold prv vv
          have r0 := R1.v0; have r1 := R1.v1; have r2 := R1.v2; have r3 := R1.v3; have r4 := R1.v4
          have f0 := R1.g0; have f1 := R1.g1; have f2 := R1.g2; have f3 := R1.g3; have f4 := R1.g4
          have RH := Lib.hid (prv_box R1 v)
          clear R1
          go_wp2_with (fail)
          have RF := RH.out
          have c0 := RF.c 0 _ rfl; have c1 := RF.c 1 _ rfl; have c2 := RF.c 2 _ rfl; have c3 := RF.c 3 _ rfl; have c4 := RF.c 4 _ rfl
          clear RF
          refine bodyPost_ret (v := .tuple #[.agg #[.int .i64 v.k, .int .i64 v.n, .string (tx v.s), .int .i64 v.x, .int .i64 v.y], .int .i64 (z : Int), .int .i64 (k : Int)]) (by simp [results, Tryz.results74, go_sem, c0, c1, c2, c3, c4]) rfl ⟨rfl, ?_⟩
          exact below_all5 HB1.out (Nat.le_refl _) _ _ _ _ _
        · have HE := Lib.hid (HE1.out.trans (if_neg (by rintro (h | h); exact h45 h; rw [hd] at h; cases h)))
          rw [hd] at HG
          clear HE1 h45 hd
          rw [HE.out]
          go_enter Tryz.func74, Tryz.ntmps74
          go_wp2_with (fail)
          refine (HG.out _).mono ?_
          rintro e w' ⟨rfl, rfl⟩
          go_wp2_with (fail)
          refine bodyPost_ret (v := prv (vz, 0, 10)) (by simp [results, Tryz.results74, go_sem]; rfl) rfl ⟨rfl, ?_⟩
          exact box1 w _
end Go.Proofs.YtcdjincaedpodaaGreatDoor.Va
/-
  The words of expr: blanks, shuts, firstLetters, numberOf.
-/
namespace Go.Proofs.YtcdjincaedpodaaGreatDoor.Ex
open Go.ChangeShapes Go.WideShapes Go.ChangeAt Go.RowKit Go.Proofs.YtcdjincaedpodaaGreatDoor.Ov Go.Proofs.YtcdjincaedpodaaGreatDoor.Va

theorem drop_end {s : ByteArray} {k : Nat} (h : ¬ k < s.size) : s.data.toList.drop k = [] := List.drop_of_length_le (by simp; omega)
set_option maxHeartbeats 1000000 in
theorem blanks_any (s : ByteArray) (w : World) (hs : s.size ≤ 281474976710656) : Calls Tryz.prog 29 #[.string s] w fun e w' => e = .returned (.int .i64 ((bl s.data.toList : Nat) : Int)) ∧ w = w' := by
  go_enter Tryz.func29, Tryz.ntmps29
  go_wp2_with (fail)
  go_loop [3] (fun i => ∃ k : Nat, k ≤ s.size ∧ i = .int .i64 (k : Int) ∧ bl s.data.toList = k + bl (s.data.toList.drop k)) (fun i => s.size - (intOf i).toNat)
  case atStart => exact ⟨0, Nat.zero_le _, rfl, by rw [List.drop_zero]; omega⟩
  case round =>
    obtain ⟨k, hk, rfl, hb⟩ := hrel
    by_cases hlt : k < s.size
    · have hd := drop_at hlt
      obtain ⟨c, hc⟩ : ∃ c : UInt8, s[k] = c := ⟨_, rfl⟩
      rw [hc] at hd
      by_cases h32 : c = 32
      · subst h32
        rw [hd, bl_blank] at hb
        have HB := Lib.hid hb
        clear hb hd
        go_wp2_with (fail)
        go_round
        case rel => exact ⟨k + 1, by omega, by go_num, by rw [HB.out]; omega⟩
        case measure => simp [intOf]; omega
      · rw [hd, bl_other _ h32] at hb
        have HB := Lib.hid hb
        have g : ((c.toNat : Int) == 32) = false := by
          rw [beq_eq_false_iff_ne]
          intro e
          exact h32 (UInt8.toNat_inj.1 (show c.toNat = 32 by omega))
        clear hb hd h32
        go_wp2_with (fail)
        go_ret
        exact ⟨ret_int (by rw [HB.out]; omega), rfl⟩
    · rw [drop_end hlt] at hb
      have HB := Lib.hid hb
      clear hb
      go_wp2_with (fail)
      go_ret
      exact ⟨ret_int (by rw [HB.out]; show _ = ((k + 0 : Nat) : Int); omega), rfl⟩
theorem shuts_any (s : ByteArray) (w : World) (hs : s.size ≤ 281474976710656) : Calls Tryz.prog 31 #[.string s] w fun e w' => e = .returned (.int .i64 ((sh s.data.toList : Nat) : Int)) ∧ w = w' := by
  by_cases hz : s.size = 0
  · have h1 := empty_of hz
    have h1' : s.toList.isEmpty = true := by rw [h1]; rfl
    have HE : Hid (sh s.data.toList = 2) := by show _ = _; rw [← ByteArray.toList_eq, h1]; rfl
    clear h1 hz
    go_enter Tryz.func31, Tryz.ntmps31
    go_wp2_with (fail)
    go_ret
    exact ⟨ret_int (by rw [HE.out]; rfl), rfl⟩
  · have h1 := full_of hz
    have h1' : s.toList.isEmpty = false := by simpa using h1
    have h3 : 0 < s.size := by omega
    have hd := drop_at h3
    rw [List.drop_zero] at hd
    obtain ⟨c, hc⟩ : ∃ c : UInt8, s[0] = c := ⟨_, rfl⟩
    rw [hc] at hd
    by_cases h41 : c = 41
    · subst h41
      have HE : Hid (sh s.data.toList = 0) := by show _ = _; rw [hd]; rfl
      clear hd h1 hz
      go_enter Tryz.func31, Tryz.ntmps31
      go_wp2_with (fail)
      go_ret
      exact ⟨ret_int (by rw [HE.out]; rfl), rfl⟩
    · have HE : Hid (sh s.data.toList = 12) := by show _ = _; rw [hd]; exact if_neg h41
      have g : ((c.toNat : Int) != 41) = true := by
        rw [bne_iff_ne]
        intro e
        exact h41 (UInt8.toNat_inj.1 (show c.toNat = 41 by omega))
      clear hd h1 hz h41
      go_enter Tryz.func31, Tryz.ntmps31
      go_wp2_with (fail)
      go_ret
      exact ⟨ret_int (by rw [HE.out]; rfl), rfl⟩
theorem take_list (s : ByteArray) (n : Nat) : (s.extract 0 n) = tx (s.data.toList.take n) := ext_take s n
set_option maxRecDepth 100000 in
set_option maxHeartbeats 1000000 in
theorem letters_any (s : ByteArray) (w : World) : Calls Tryz.prog 115 #[.string s] w (Gives (.string (tx (fl s.data.toList))) w) := by
  go_enter Tryz.func115, Tryz.ntmps115
  go_wp2_with (fail)
  go_loopw [] (fun w' => ∃ k : Nat, k ≤ s.size ∧ w' = w.iter s k ∧ fl s.data.toList = s.data.toList.take k ++ fl (s.data.toList.drop k)) (fun w' => s.size - w'.iterPos w.heap.size)
  case atStart => exact ⟨0, Nat.zero_le _, rfl, by simp⟩
  case round =>
    obtain ⟨k, hk, rfl, hb⟩ := hrel
    by_cases hlt : k < s.size
    · have hd := drop_at hlt
      by_cases hc : le s[k] = true
      · have hm := of_decide_eq_true hc
        have HB : Hid (fl s.data.toList = s.data.toList.take (k + 1) ++ fl (s.data.toList.drop (k + 1))) := by
          show _ = _
          have e : fl (s[k] :: s.data.toList.drop (k + 1)) = s[k] :: fl (s.data.toList.drop (k + 1)) := by
            show List.takeWhile le _ = _
            rw [List.takeWhile_cons, if_pos hc]; rfl
          rw [hb, hd, e, take_snoc s k hlt, List.append_assoc]; rfl
        have hnx : ∀ ty, (Instr.next (.pointer (some ⟨w.heap.size, 0, none⟩)) true ty).run Tryz.prog (w.iter s k) = _ := fun ty => run_next_ascii w s k ty hlt (by omega)
        generalize s[k].toNat = m at *
        clear hb hd hc
        go_wp2_with (fail)
        go_roundw
        case rel => exact ⟨k + 1, by omega, rfl, HB.out⟩
        case measure => simp; omega
      · have HB : Hid (fl s.data.toList = s.data.toList.take k) := by
          show _ = _
          have e : fl (s[k] :: s.data.toList.drop (k + 1)) = [] := by
            show List.takeWhile le _ = _
            rw [List.takeWhile_cons, if_neg hc]
          rw [hb, hd, e, List.append_nil]
        obtain ⟨r, k', hr, hnx⟩ : ∃ r k' : Nat, (r < 97 ∨ 122 < r) ∧ ∀ ty, (Instr.next (.pointer (some ⟨w.heap.size, 0, none⟩)) true ty).run Tryz.prog (w.iter s k) = .ok (.tuple #[.bool true, .int .i64 (k : Int), .int .i32 (r : Int)]) (w.iter s k') := by
          by_cases ha : s[k].toNat < 128
          · refine ⟨s[k].toNat, k + 1, ?_, fun ty => run_next_ascii w s k ty hlt ha⟩
            have : ¬ (97 ≤ s[k].toNat ∧ s[k].toNat ≤ 122) := fun h => hc (decide_eq_true h)
            omega
          · refine ⟨(Utf8.decode s k).1, _, ?_, fun ty => run_next_any w s k ty hlt⟩
            have := (decode_high s k hlt (by omega)).1
            omega
        clear hb hd hc
        have hbl : Hid (∀ j, Below w.heap.size w (w.iter s j)) := fun j => (Below.refl _ _).alloc (Nat.le_refl _) _
        by_cases h1 : r < 97
        · clear hr
          go_wp2_with (fail)
          go_ret
          exact ⟨ret_str (by rw [HB.out, ext_take]), hbl.out _⟩
        · have h2 : 122 < r := by omega
          clear hr
          go_wp2_with (fail)
          go_ret
          exact ⟨ret_str (by rw [HB.out, ext_take]), hbl.out _⟩
    · have hnx : ∀ ty, (Instr.next (.pointer (some ⟨w.heap.size, 0, none⟩)) true ty).run Tryz.prog (w.iter s k) = _ := fun ty => run_next_end w s k ty hlt
      have HB : Hid (fl s.data.toList = s.data.toList) := by
        show _ = _
        rw [drop_end hlt, List.take_of_length_le (by simp; omega)] at hb
        rw [hb]; simp [fl]
      have hbl : Hid (∀ j, Below w.heap.size w (w.iter s j)) := fun j => (Below.refl _ _).alloc (Nat.le_refl _) _
      clear hb
      go_wp2_with (fail)
      go_ret
      exact ⟨ret_str (by rw [HB.out, tx_of]), hbl.out _⟩
end Go.Proofs.YtcdjincaedpodaaGreatDoor.Ex
/-
  What numberOf finds: a kind, a name (written by gen_excut.py).
-/
namespace Go.Proofs.YtcdjincaedpodaaGreatDoor.Ex
open Go.ChangeShapes Go.WideShapes Go.ChangeAt Go.RowKit Go.Proofs.YtcdjincaedpodaaGreatDoor.Ov Go.Proofs.YtcdjincaedpodaaGreatDoor.Va

theorem find_some {p : Nat → Bool} {n k : Nat} (hk : k < n) (hp : p k = true) (h : ∀ j, j < k → p j = false) : (List.range n).find? p = some k := by
  rw [List.find?_range_eq_some]
  exact ⟨hp, List.mem_range.2 hk, fun j hj => by rw [h j hj]; rfl⟩
theorem find_none {p : Nat → Bool} {n : Nat} (h : ∀ j, j < n → p j = false) : (List.range n).find? p = none := by
  rw [List.find?_range_eq_none]
  exact fun j hj => by rw [h j hj]; rfl
/-- What numberOf answers. -/
def fdv : Option Nat → Value
  | some i => .tuple #[.int .i64 (i : Int), .bool true]
  | none => .tuple #[.int .i64 0, .bool false]
theorem tx_inj {a b : List UInt8} (h : tx a = tx b) : a = b := by rw [← tx_list a, h, tx_list]
theorem tx_beq (a b : List UInt8) : ((tx a).toList == (tx b).toList) = decide (a = b) := by
  rw [ByteArray.toList_eq, ByteArray.toList_eq, tx_list, tx_list, Bool.eq_iff_iff]; simp
set_option maxHeartbeats 1000000 in
theorem kindIs_any (i b : Nat) (hi : i < 30) (word : List UInt8) (w : World) (hk : KN w) (hw : w.cell? ⟨b, 0, none⟩ = some (.string (tx word))) : Calls Tryz.prog 117 #[.int .i64 (i : Int), .pointer (some ⟨b, 0, none⟩)] w (Gives (.bool (isK word i)) w) := by
  have e : isK word i = (decide (2 ≤ (i : Int) ∧ (i : Int) ≤ 29) && decide (wd (i : Int) = word)) := by
    unfold isK
    rw [wd_at hi, Bool.eq_iff_iff]; simp; omega
  rw [e, ← tx_beq]; clear e
  have HP : Hid (Calls Tryz.prog 33 #[.int .i64 (i : Int)] w (Gives (.tuple #[.string (tx (wd (i : Int))), .int .i64 ((pa (i : Int) : Nat) : Int), .bool (decide (2 ≤ (i : Int) ∧ (i : Int) ≤ 29))]) w)) := parts_any (i : Int) w hk
  clear hk
  have hlt := block_lt_of_cell hw
  generalize decide (2 ≤ (i : Int) ∧ (i : Int) ≤ 29) = q at *
  generalize tx (wd (i : Int)) = a at *
  generalize tx word = t at *
  generalize ((pa (i : Int) : Nat) : Int) = p at *
  cases q
  · rw [Bool.false_and]
    go_enter Tryz.func117, Tryz.ntmps117
    go_wp2_with (fail)
    refine HP.out.mono ?_
    rintro e w1 ⟨rfl, hb⟩
    have HB := Lib.hid hb
    clear hb
    go_wp2_with (fail)
    go_ret
    exact ⟨rfl, HB.out⟩
  · rw [Bool.true_and]
    go_enter Tryz.func117, Tryz.ntmps117
    go_wp2_with (fail)
    refine HP.out.mono ?_
    rintro e w1 ⟨rfl, hb⟩
    have HB := Lib.hid hb
    have hw1 : w1.cell? ⟨b, 0, none⟩ = some (.string t) := (hb.cell (p := ⟨b, 0, none⟩) hlt).trans hw
    clear hb hw
    go_wp2_with (fail)
    go_ret
    exact ⟨rfl, HB.out⟩
set_option maxHeartbeats 1000000 in
theorem nameIs_any (i b : Nat) (hi : i < 5) (word : List UInt8) (w : World) (hk : KN w) (hw : w.cell? ⟨b, 0, none⟩ = some (.string (tx word))) : Calls Tryz.prog 121 #[.int .i64 (i : Int), .pointer (some ⟨b, 0, none⟩)] w (Gives (.bool (isN word i)) w) := by
  have e : isN word i = decide (nml[i]! = word) := rfl
  rw [e, ← tx_beq]; clear e
  have c0 := hk.name i hi
  clear hk
  generalize tx nml[i]! = a at *
  generalize tx word = t at *
  go_enter Tryz.func121, Tryz.ntmps121
  go_wp2_with (fail)
  go_quiet (fail)
  go_wp2_with (fail)
  go_ret
  exact ⟨rfl, below_drewN (Below.refl _ _) _⟩
set_option maxRecDepth 100000 in
set_option maxHeartbeats 1000000 in
theorem findKind_any (b : Nat) (word : List UInt8) (w : World) (hk : KN w) (hw : w.cell? ⟨b, 0, none⟩ = some (.string (tx word))) :
    Calls Tryz.prog 116 #[.int .i64 30, .func (.func 117) #[] #[.pointer (some ⟨b, 0, none⟩)]] w (Gives (fdv ((List.range 30).find? (isK word))) w) := by
  have HC : Hid (∀ i : Nat, i < 30 → ∀ wr, Below w.heap.size w wr → Calls Tryz.prog 117 #[.int .i64 (i : Int), .pointer (some ⟨b, 0, none⟩)] wr (Gives (.bool (isK word i)) wr)) := fun i hi wr hb =>
    kindIs_any i b hi word wr (hk.next hb) ((hb.cell (p := ⟨b, 0, none⟩) (block_lt_of_cell hw)).trans hw)
  clear hk hw
  generalize isK word = p at *
  go_enter Tryz.func116, Tryz.ntmps116
  go_wp2_with (fail)
  go_loopw [8] (fun i wr => ∃ k : Nat, k ≤ 30 ∧ i = .int .i64 (k : Int) ∧ Below w.heap.size w wr ∧ ∀ j, j < k → p j = false) (fun i _ => 30 - (intOf i).toNat)
  case atStart => exact ⟨0, Nat.zero_le _, rfl, Below.refl _ _, fun j hj => absurd hj (Nat.not_lt_zero j)⟩
  case round =>
    obtain ⟨k, hk, rfl, hb, hn⟩ := hrel
    have HN := Lib.hid hn
    have HB := Lib.hid hb
    clear hn hb
    by_cases hlt : k < 30
    · have HK := Lib.hid (HC.out k hlt wr HB.out)
      obtain ⟨q, hq⟩ : ∃ q, p k = q := ⟨_, rfl⟩
      rw [hq] at HK
      have HQ := Lib.hid hq
      clear hq
      cases q
      · go_wp2_with (fail)
        refine HK.out.mono ?_
        rintro e w1 ⟨rfl, hb⟩
        have HB1 := Lib.hid (Below.next HB.out hb)
        clear hb
        go_wp2_with (fail)
        go_roundw
        case rel =>
          refine ⟨k + 1, by omega, by go_num, HB1.out, fun j hj => ?_⟩
          rcases Nat.lt_succ_iff_lt_or_eq.1 hj with h | h
          · exact HN.out j h
          · rw [h]; exact HQ.out
        case measure => simp [intOf]; omega
      · have HE : Hid (fdv ((List.range 30).find? p) = .tuple #[.int .i64 (k : Int), .bool true]) := by
          show _ = _
          rw [find_some hlt HQ.out HN.out]; rfl
        go_wp2_with (fail)
        refine HK.out.mono ?_
        rintro e w1 ⟨rfl, hb⟩
        have HB1 := Lib.hid (Below.next HB.out hb)
        clear hb
        go_wp2_with (fail)
        go_ret2
        exact ⟨by rw [HE.out]; rfl, HB1.out⟩
    · have HE : Hid (fdv ((List.range 30).find? p) = .tuple #[.int .i64 0, .bool false]) := by
        show _ = _
        rw [find_none (fun j hj => HN.out j (by omega))]; rfl
      go_wp2_with (fail)
      go_ret2
      exact ⟨by rw [HE.out]; rfl, HB.out⟩
set_option maxRecDepth 100000 in
set_option maxHeartbeats 1000000 in
theorem findName_any (b : Nat) (word : List UInt8) (w : World) (hk : KN w) (hw : w.cell? ⟨b, 0, none⟩ = some (.string (tx word))) :
    Calls Tryz.prog 116 #[.int .i64 5, .func (.func 121) #[] #[.pointer (some ⟨b, 0, none⟩)]] w (Gives (fdv ((List.range 5).find? (isN word))) w) := by
  have HC : Hid (∀ i : Nat, i < 5 → ∀ wr, Below w.heap.size w wr → Calls Tryz.prog 121 #[.int .i64 (i : Int), .pointer (some ⟨b, 0, none⟩)] wr (Gives (.bool (isN word i)) wr)) := fun i hi wr hb =>
    nameIs_any i b hi word wr (hk.next hb) ((hb.cell (p := ⟨b, 0, none⟩) (block_lt_of_cell hw)).trans hw)
  clear hk hw
  generalize isN word = p at *
  go_enter Tryz.func116, Tryz.ntmps116
  go_wp2_with (fail)
  go_loopw [8] (fun i wr => ∃ k : Nat, k ≤ 5 ∧ i = .int .i64 (k : Int) ∧ Below w.heap.size w wr ∧ ∀ j, j < k → p j = false) (fun i _ => 5 - (intOf i).toNat)
  case atStart => exact ⟨0, Nat.zero_le _, rfl, Below.refl _ _, fun j hj => absurd hj (Nat.not_lt_zero j)⟩
  case round =>
    obtain ⟨k, hk, rfl, hb, hn⟩ := hrel
    have HN := Lib.hid hn
    have HB := Lib.hid hb
    clear hn hb
    by_cases hlt : k < 5
    · have HK := Lib.hid (HC.out k hlt wr HB.out)
      obtain ⟨q, hq⟩ : ∃ q, p k = q := ⟨_, rfl⟩
      rw [hq] at HK
      have HQ := Lib.hid hq
      clear hq
      cases q
      · go_wp2_with (fail)
        refine HK.out.mono ?_
        rintro e w1 ⟨rfl, hb⟩
        have HB1 := Lib.hid (Below.next HB.out hb)
        clear hb
        go_wp2_with (fail)
        go_roundw
        case rel =>
          refine ⟨k + 1, by omega, by go_num, HB1.out, fun j hj => ?_⟩
          rcases Nat.lt_succ_iff_lt_or_eq.1 hj with h | h
          · exact HN.out j h
          · rw [h]; exact HQ.out
        case measure => simp [intOf]; omega
      · have HE : Hid (fdv ((List.range 5).find? p) = .tuple #[.int .i64 (k : Int), .bool true]) := by
          show _ = _
          rw [find_some hlt HQ.out HN.out]; rfl
        go_wp2_with (fail)
        refine HK.out.mono ?_
        rintro e w1 ⟨rfl, hb⟩
        have HB1 := Lib.hid (Below.next HB.out hb)
        clear hb
        go_wp2_with (fail)
        go_ret2
        exact ⟨by rw [HE.out]; rfl, HB1.out⟩
    · have HE : Hid (fdv ((List.range 5).find? p) = .tuple #[.int .i64 0, .bool false]) := by
        show _ = _
        rw [find_none (fun j hj => HN.out j (by omega))]; rfl
      go_wp2_with (fail)
      go_ret2
      exact ⟨by rw [HE.out]; rfl, HB.out⟩
end Go.Proofs.YtcdjincaedpodaaGreatDoor.Ex
/-
  A node's box (of any of the two node types): six cells, stored at once.
-/
namespace Go.Proofs.YtcdjincaedpodaaGreatDoor.Ov
open Go.ChangeShapes Go.WideShapes Go.ChangeAt Go.RowKit
section
variable {w : World} {b : Nat} {vs : List Value}
/-- A node is stored into its box. -/
theorem Blk.all6 (h : Blk w b vs) (hl : vs.length = 6) (a0 a1 a2 a3 a4 a5 : Value) :
    Blk ((((((w.setCell ⟨b, 0, none⟩ a0).setCell ⟨b, 1, none⟩ a1).setCell ⟨b, 2, none⟩ a2).setCell ⟨b, 3, none⟩ a3).setCell ⟨b, 4, none⟩ a4).setCell ⟨b, 5, none⟩ a5) b [a0, a1, a2, a3, a4, a5] := by
  match vs, hl with
  | [_, _, _, _, _, _], _ => exact (((((h.set 0 a0).set 1 a1).set 2 a2).set 3 a3).set 4 a4).set 5 a5
theorem below_all6 {B : Nat} {a : World} (h : Below B a w) (hb : B ≤ b) (a0 a1 a2 a3 a4 a5 : Value) :
    Below B a ((((((w.setCell ⟨b, 0, none⟩ a0).setCell ⟨b, 1, none⟩ a1).setCell ⟨b, 2, none⟩ a2).setCell ⟨b, 3, none⟩ a3).setCell ⟨b, 4, none⟩ a4).setCell ⟨b, 5, none⟩ a5) :=
  (((((h.setCell (p := ⟨b, 0, none⟩) hb a0).setCell (p := ⟨b, 1, none⟩) hb a1).setCell (p := ⟨b, 2, none⟩) hb a2).setCell (p := ⟨b, 3, none⟩) hb a3).setCell (p := ⟨b, 4, none⟩) hb a4).setCell (p := ⟨b, 5, none⟩) hb a5
end
end Go.Proofs.YtcdjincaedpodaaGreatDoor.Ov
namespace Go.Proofs.YtcdjincaedpodaaGreatDoor.Ex
open Go.ChangeShapes Go.WideShapes Go.ChangeAt Go.RowKit Go.Proofs.YtcdjincaedpodaaGreatDoor.Ov Go.Proofs.YtcdjincaedpodaaGreatDoor.Va
/-- A node as a value. -/
def nov (n : No) : Value := .agg #[.int .i64 n.o, .int .i64 n.v.k, .int .i64 n.v.n, .string (tx n.v.s), .int .i64 n.v.x, .int .i64 n.v.y]
def ncl (n : No) : List Value := [.int .i64 n.o, .int .i64 n.v.k, .int .i64 n.v.n, .string (tx n.v.s), .int .i64 n.v.x, .int .i64 n.v.y]
/-- What cutKind, cutName, cutPart answer. -/
def cpv (r : No × Nat × Nat) : Value := .tuple #[nov r.1, .int .i64 (r.2.1 : Int), .int .i64 (r.2.2 : Int)]
theorem tail_drop (l : List UInt8) : l.tail = l.drop 1 := List.drop_one.symm
end Go.Proofs.YtcdjincaedpodaaGreatDoor.Ex
/-
  Of any seat: a region that draws its order, whose operations but the last few yield one value in every world over the first one (loads, calls that make memory of their own), and whose last ones (an allocation, a store) come in one order: walked once. It says of a class of worlds what the library's Derived/StillTail.lean says of one world, by that text's way of proof, over its HeadInv and tail_waits and Derived/Deep/Quiet.lean's qOp.
-/
namespace Go.Proofs.YtcdjincaedpodaaGreatDoor.Ov
open Go.ChangeShapes Go.WideShapes Go.ChangeAt Go.RowKit

section
variable {P : Program} {ops : Array Oper} {md : Region.Mode} {C : World → Prop}

/-- So many operations come up, each of the first n and quiet in the class, in whatever order; then L. -/
def Heads (P : Program) (md : Region.Mode) (ops : Array Oper) (C : World → Prop) (n : Nat) (L : Array Bool → Act → Prop) : Nat → Array Bool → Act → Prop
  | 0, listed, a => L listed a
  | f + 1, listed, a => Region.ready md ops listed ≠ [] ∧ ∀ i ∈ Region.ready md ops listed, i < n ∧ qOp P ops C i (Heads P md ops C n L f (listed.setIfInBounds i true)) a

theorem Heads.any {n g : Nat} {L : Array Bool → Act → Prop} {Q' : Exit → Act → World → Prop} (hL : ∀ listed a w, C w → L listed a → wpAny P md ops Q' g listed a w) :
    ∀ (f : Nat) (listed : Array Bool) (a : Act) (w : World), C w → Heads P md ops C n L f listed a → wpAny P md ops Q' (f + g) listed a w
  | 0, listed, a, w, hw, h => by rw [Nat.zero_add]; exact hL _ _ _ hw h
  | f + 1, listed, a, w, hw, h => by
    rw [show f + 1 + g = (f + g) + 1 by omega]
    exact ⟨fun h0 => absurd h0 h.1, fun i hi => wpOp_of_qOp hw (fun a' w' hw' h' => Heads.any hL f _ a' w' hw' h') (h.2 i hi).2⟩

/-- Of the heads that may come up now one may be taken first. -/
theorem Heads.first {n i : Nat} {oi : Oper} {v : Value} {L : Array Bool → Act → Prop} (hi : ops[i]? = some oi) (hsel : ∀ (j : Nat) (o : Oper) cs b, ops[j]? = some o → o.op ≠ .select cs b)
    (hs : Region.sinkB md ops n = true) (hc : Region.chainB md ops n = true) (hn : n < ops.size) (hin : i < n) (hdone : ∀ listed a, L listed a → ∀ j ∈ Region.ready md ops listed, n ≤ j) (f : Nat) :
    ∀ (listed : Array Bool) (a : Act), HeadInv md ops n listed →
      (∀ j oj, ops[j]? = some oj → j ≠ i → listed.getD j true = false → (∀ e ∈ oj.after, Region.binds md e = true → e.on ≠ i) → oi.apart ops oj = true) →
      i ∈ Region.ready md ops listed → YieldsIn P ops C oi v a →
      Heads P md ops C n L f (listed.setIfInBounds i true) (a.put oi.dst v) → Heads P md ops C n L (f + 1) listed a := by
  induction f with
  | zero =>
    intro listed a inv hfree hr hy H
    have hun := (mem_ready.1 hr).1
    refine ⟨List.ne_nil_of_mem hr, fun j hj => ?_⟩
    have hjn : j < n := Nat.lt_of_not_le fun h => tail_waits hs hc hn inv _ i rfl hin hun j h hj
    refine ⟨hjn, ?_⟩
    rcases Nat.decEq j i with e | rfl
    · exact absurd (hdone _ _ H j (ready_mono hj e)) (by omega)
    · exact hy.qOp hi H
  | succ f ih =>
    intro listed a inv hfree hr hy H
    have hun := (mem_ready.1 hr).1
    refine ⟨List.ne_nil_of_mem hr, fun j hj => ?_⟩
    have hjn : j < n := Nat.lt_of_not_le fun h => tail_waits hs hc hn inv _ i rfl hin hun j h hj
    refine ⟨hjn, ?_⟩
    rcases Nat.decEq j i with e | rfl
    · obtain ⟨hjun, oj, hoj, hall⟩ := mem_ready.1 hj
      have hnot : ∀ e ∈ oj.after, Region.binds md e = true → e.on ≠ i := by
        intro d hd hb he
        have h1 := hall d hd hb
        rw [he, getD_both hun] at h1
        cases h1
      refine qOp_mono (fun a' h3 => ih (listed.setIfInBounds j true) a' (inv.set hj hjn) ?_ (ready_mono hr (Ne.symm e)) h3.1 ?_)
        (qOp_put hoj (hfree j oj hoj e hjun hnot) (fun cs b => hsel i oi cs b hi) (fun cs b => hsel j oj cs b hoj) hy (H.2 j (ready_mono hj e)).2)
      · intro k ok hk hki hku hno
        refine hfree k ok hk hki ?_ hno
        rcases Nat.decEq j k with d | rfl
        · rwa [getD_set_ne true d] at hku
        · exact hjun
      · rw [Array.setIfInBounds_comm _ _ e]; exact h3.2
    · exact hy.qOp hi H

theorem Heads.lex {n g : Nat} {Lq : Act → Prop} (hsel : Region.noSelect ops = true) (hs : Region.sinkB md ops n = true) (hc : Region.chainB md ops n = true) (hn : n < ops.size) :
    ∀ (l : List Oper) (k : Nat) (listed : Array Bool) (a : Act), (∀ j, j < l.length → l[j]? = ops[k + j]?) → k + l.length = n → HeadInv md ops n listed →
    Region.lexHead md ops g l.length k listed = true → wpQuiet P ops C Lq l a →
    Heads P md ops C n (fun listed' a' => Region.seqB md ops g n listed' = true ∧ Lq a') l.length listed a
  | [], k, listed, a, _, hk, _, hB, h => by
    obtain rfl : k = n := by simpa using hk
    exact ⟨by simpa [Region.lexHead] using hB, h⟩
  | o :: l, k, listed, a, hl, hk, inv, hB, h => by
    have h0 : ops[k]? = some o := by simpa using (hl 0 (by simp)).symm
    simp only [List.length_cons, Region.lexHead, Bool.and_eq_true] at hB
    obtain ⟨⟨hr, hf⟩, hB'⟩ := hB
    have hr' : k ∈ Region.ready md ops listed := by simpa using hr
    have hk' : k + 1 + l.length = n := by rw [← hk, List.length_cons]; omega
    have hkn : k < n := by omega
    obtain ⟨v, hy, hK⟩ := yieldsIn_of_qOp h0 (show qOp P ops C k (wpQuiet P ops C Lq l) a by unfold qOp; simp only [h0]; exact h)
    exact Heads.first h0 (Region.noSelect_spec hsel) hs hc hn hkn (fun listed' a' hL => seqB_ready hL.1) l.length listed a inv (Region.free_spec h0 hf) hr' hy
      (Heads.lex hsel hs hc hn l (k + 1) _ _ (fun j hj => by have := hl (j + 1) (by simp; omega); simpa [Nat.add_assoc, Nat.add_comm 1 j] using this) hk' (inv.set hr' hkn) hB' hK)

/-- The first n operations are quiet in the class; the others come in one order. -/
theorem wp_quiet_tail {id : Nat} {Q : Exit → Act → World → Prop} {a : Act} {w : World} {l : List Oper} (n : Nat) (hm : P.follows .mixedOrders = true) (hB : Region.lexTailB .any l.toArray n = true) (hC : C { w with drawn := w.drawn + 1 })
    (h : wpQuiet P l.toArray C (fun a' => ∀ w', C w' → wpList P l.toArray Q (l.drop n) a' w') (l.take n) a) : (Code.region id l.toArray true).wp P Q a w := by
  simp only [Region.lexTailB, Bool.and_eq_true, decide_eq_true_eq] at hB
  obtain ⟨⟨⟨⟨hsel, hn⟩, hs⟩, hc⟩, hlex⟩ := hB
  have hn' : n < l.length := by simpa using hn
  have htl : (l.take n).length = n := by simp; omega
  have hdl : (l.drop n).length = l.toArray.size - n := by simp
  have inv0 : HeadInv .any l.toArray n (Array.replicate l.toArray.size false) :=
    ⟨by simp, fun j oj _ hl => (by rw [getD_replicate_false] at hl; cases hl), fun t _ ht => getD_in (by simpa using ht) (getD_replicate_false _ _)⟩
  have H := Heads.lex (md := .any) (g := l.toArray.size - n) hsel hs hc hn (l.take n) 0 _ a (fun j hj => by
    have hj' : j < n := by rw [htl] at hj; exact hj
    simp [hj']) (by simpa using htl) inv0 (by rw [htl]; exact hlex) h
  refine wp_region_any hm ?_
  have H2 := Heads.any (Q' := Q) (g := l.toArray.size - n) (fun listed a' w' hw hL => by
    have h1 := wpAny_of_seq (md := .any) (Q' := Q) (l.drop n) n listed a' w' (fun j => by simp [List.getElem?_drop]) (by rw [hdl]; exact hL.1) (hL.2 w' hw)
    rwa [hdl] at h1) _ _ _ _ hC H
  rw [htl, show n + (l.toArray.size - n) = l.toArray.size by omega] at H2
  exact H2
end

/-- The same, of the worlds over the first one. -/
theorem wp_over_tail {P : Program} {id : Nat} {Q : Exit → Act → World → Prop} {a : Act} {w : World} {l : List Oper} (n : Nat) (hm : P.follows .mixedOrders = true) (hB : Region.lexTailB .any l.toArray n = true)
    (h : wpQuiet P l.toArray (fun w' => ∃ q : Over w, w' = q.val) (fun a' => ∀ w', (∃ q : Over w, w' = q.val) → wpList P l.toArray Q (l.drop n) a' w') (l.take n) a) : (Code.region id l.toArray true).wp P Q a w :=
  wp_quiet_tail (C := fun w' => ∃ q : Over w, w' = q.val) n hm hB ⟨⟨w.drew, below_drewN (Below.refl _ _) 1⟩, rfl⟩ h
end Go.Proofs.YtcdjincaedpodaaGreatDoor.Ov
/-
  What cutKind and cutName answer (written by gen_excut.py).
-/
namespace Go.Proofs.YtcdjincaedpodaaGreatDoor.Ex
open Go.ChangeShapes Go.WideShapes Go.ChangeAt Go.RowKit Go.Proofs.YtcdjincaedpodaaGreatDoor.Ov Go.Proofs.YtcdjincaedpodaaGreatDoor.Va

set_option maxRecDepth 100000 in
set_option maxHeartbeats 2000000 in
theorem cutKind_any (s : ByteArray) (h0 : 0 < s.size) (hs : s.size ≤ 281474976710656) (w : World) (hk : KN w) : Calls Tryz.prog 73 #[.string s] w (Gives (cpv (ck s.data.toList)) w) := by
  have HL := Lib.hid (letters_any (s.extract 1 s.size))
  rw [ext_list, ← tail_drop] at HL
  have HK := Lib.hid hk; clear hk
  have HF := Lib.hid (fun b w => findKind_any b (fl s.data.toList.tail) w)
  have HM : Hid (ck s.data.toList = match kf (fl s.data.toList.tail) with | none => (nz, 1, 10) | some i => (⟨(i : Int), vz⟩, 1 + (fl s.data.toList.tail).length, 0)) := rfl
  have hfl := fl_le s.data.toList.tail
  rw [List.length_tail] at hfl
  have hsz : s.data.toList.length = s.size := by simp
  rw [hsz] at hfl
  generalize fl s.data.toList.tail = word at *
  have hz : (tx word).size = word.length := tx_size word
  rw [← hz] at hfl HM
  unfold kf at HM
  generalize (List.range 30).find? (isK word) = f at *
  clear hz hsz
  have h1 : (1 : Int) ≤ (s.size : Int) := by omega
  go_enter Tryz.func73, Tryz.ntmps73
  go_wp2_with (fail)
  have kb := Lib.hid (box1 w (.cells #[.int .i64 0, .int .i64 0, .int .i64 0, .string ⟨#[]⟩, .int .i64 0, .int .i64 0] 59))
  have D := Lib.hid (Blk.made w 59 (ncs 0 0 0 ⟨#[]⟩ 0 0) rfl)
  change Hid (Blk (w.alloc (.cells #[.int .i64 0, .int .i64 0, .int .i64 0, .string ⟨#[]⟩, .int .i64 0, .int .i64 0] 59)) w.heap.size _) at D
  generalize w.alloc (.cells #[.int .i64 0, .int .i64 0, .int .i64 0, .string ⟨#[]⟩, .int .i64 0, .int .i64 0] 59) = v at *
  refine (HL.out _).mono ?_
  rintro e w1 ⟨rfl, hb⟩
  have D1 := Lib.hid (D.out.next hb)
  have HB1 := Lib.hid (Below.next kb.out hb)
  clear hb D kb HL
  go_wp2_with (fail)
  have hb := box1 w1 (.cells #[.string (tx word)] 9)
  have hw : (w1.alloc (.cells #[.string (tx word)] 9)).cell? ⟨w1.heap.size, 0, none⟩ = some (.string (tx word)) := by simp
  generalize w1.alloc (.cells #[.string (tx word)] 9) = v2 at *
  have D2 := Lib.hid (D1.out.next hb)
  have HB2 := Lib.hid (Below.next HB1.out hb)
  have HW2 := Lib.hid hw
  have HNE : Hid (¬ w.heap.size = w1.heap.size) := by
    show ¬ _ = _
    have := D1.out.lt
    omega
  clear hb hw D1 HB1
  generalize w1.heap.size = b5 at *
  refine (HF.out _ _ (HK.out.next HB2.out) HW2.out).mono ?_
  rintro e w3 ⟨rfl, hb⟩
  have D3 := Lib.hid (D2.out.next hb)
  have HB3 := Lib.hid (Below.next HB2.out hb)
  have HW3 := Lib.hid ((hb.cell (p := ⟨b5, 0, none⟩) (block_lt_of_cell HW2.out)).trans HW2.out)
  clear hb D2 HB2 HW2 HF
  cases f with
  | none =>
    have HE : Hid (ck s.data.toList = (nz, 1, 10)) := HM
    clear HM HW3
    unfold fdv
    have r0 := D3.out.c 0 _ rfl; have r1 := D3.out.c 1 _ rfl; have r2 := D3.out.c 2 _ rfl; have r3 := D3.out.c 3 _ rfl; have r4 := D3.out.c 4 _ rfl; have r5 := D3.out.c 5 _ rfl
    have f0 := D3.out.f 0 _ rfl; have f1 := D3.out.f 1 _ rfl; have f2 := D3.out.f 2 _ rfl; have f3 := D3.out.f 3 _ rfl; have f4 := D3.out.f 4 _ rfl; have f5 := D3.out.f 5 _ rfl
    have RH := Lib.hid (D3.out.all6 rfl)
    go_wp2_with (fail)
    have RF := RH.out (.int .i64 0) (.int .i64 0) (.int .i64 0) (.string ⟨#[]⟩) (.int .i64 0) (.int .i64 0)
    have c0 := RF.c 0 _ rfl; have c1 := RF.c 1 _ rfl; have c2 := RF.c 2 _ rfl; have c3 := RF.c 3 _ rfl; have c4 := RF.c 4 _ rfl; have c5 := RF.c 5 _ rfl
    clear RF
    rw [HE.out]
    refine bodyPost_ret (v := cpv (nz, 1, 10)) (by simp [results, Tryz.results73, go_sem, c0, c1, c2, c3, c4, c5]; rfl) rfl ⟨rfl, ?_⟩
    exact below_all6 (HB3.out) (Nat.le_refl _) _ _ _ _ _ _
  | some i =>
    have HE : Hid (ck s.data.toList = (⟨(i : Int), vz⟩, 1 + (tx word).size, 0)) := HM
    clear HM
    unfold fdv
    have hw3 := HW3.out
    go_wp2_with (fail)
    have hne : ¬ w.heap.size = b5 := HNE.out
    have hne2 : ¬ b5 = w.heap.size := fun e => HNE.out e.symm
    have r0 := D3.out.c 0 _ rfl; have r1 := D3.out.c 1 _ rfl; have r2 := D3.out.c 2 _ rfl; have r3 := D3.out.c 3 _ rfl; have r4 := D3.out.c 4 _ rfl; have r5 := D3.out.c 5 _ rfl
    have f0 := D3.out.f 0 _ rfl; have f1 := D3.out.f 1 _ rfl; have f2 := D3.out.f 2 _ rfl; have f3 := D3.out.f 3 _ rfl; have f4 := D3.out.f 4 _ rfl; have f5 := D3.out.f 5 _ rfl
    have RH := Lib.hid (D3.out.all6 rfl)
    go_region
    go_wp2_with (fail)
    have RF := (RH.out (.int .i64 (i : Int)) (.int .i64 0) (.int .i64 0) (.string ⟨#[]⟩) (.int .i64 0) (.int .i64 0)).drew
    have c0 := RF.c 0 _ rfl; have c1 := RF.c 1 _ rfl; have c2 := RF.c 2 _ rfl; have c3 := RF.c 3 _ rfl; have c4 := RF.c 4 _ rfl; have c5 := RF.c 5 _ rfl
    clear RF
    rw [HE.out]
    refine bodyPost_ret (v := cpv (⟨(i : Int), vz⟩, 1 + (tx word).size, 0)) (by simp [results, Tryz.results73, go_sem, c0, c1, c2, c3, c4, c5]; rfl) rfl ⟨rfl, ?_⟩
    exact below_drewN (below_all6 HB3.out (Nat.le_refl _) _ _ _ _ _ _) 1
set_option maxRecDepth 100000 in
set_option maxHeartbeats 2000000 in
theorem cutName_any (s : ByteArray) (w : World) (hk : KN w) : Calls Tryz.prog 75 #[.string s] w (Gives (cpv (cn s.data.toList)) w) := by
  have HL := Lib.hid (letters_any s)
  have HK := Lib.hid hk; clear hk
  have HF := Lib.hid (fun b w => findName_any b (fl s.data.toList) w)
  have HM : Hid (cn s.data.toList = match nf (fl s.data.toList) with | none => (nz, 0, 10) | some i => (⟨1, nv (i : Int)⟩, (fl s.data.toList).length, 0)) := rfl
  have hfl := fl_le s.data.toList
  have hsz : s.data.toList.length = s.size := by simp
  rw [hsz] at hfl
  generalize fl s.data.toList = word at *
  have hz : (tx word).size = word.length := tx_size word
  rw [← hz] at hfl HM
  unfold nf at HM
  generalize (List.range 5).find? (isN word) = f at *
  clear hz hsz
  go_enter Tryz.func75, Tryz.ntmps75
  go_wp2_with (fail)
  have kb := Lib.hid (box1 w (.cells #[.int .i64 0, .int .i64 0, .int .i64 0, .string ⟨#[]⟩, .int .i64 0, .int .i64 0] 59))
  have D := Lib.hid (Blk.made w 59 (ncs 0 0 0 ⟨#[]⟩ 0 0) rfl)
  change Hid (Blk (w.alloc (.cells #[.int .i64 0, .int .i64 0, .int .i64 0, .string ⟨#[]⟩, .int .i64 0, .int .i64 0] 59)) w.heap.size _) at D
  generalize w.alloc (.cells #[.int .i64 0, .int .i64 0, .int .i64 0, .string ⟨#[]⟩, .int .i64 0, .int .i64 0] 59) = v at *
  refine (HL.out _).mono ?_
  rintro e w1 ⟨rfl, hb⟩
  have D1 := Lib.hid (D.out.next hb)
  have HB1 := Lib.hid (Below.next kb.out hb)
  clear hb D kb HL
  go_wp2_with (fail)
  have hb := box1 w1 (.cells #[.string (tx word)] 9)
  have hw : (w1.alloc (.cells #[.string (tx word)] 9)).cell? ⟨w1.heap.size, 0, none⟩ = some (.string (tx word)) := by simp
  generalize w1.alloc (.cells #[.string (tx word)] 9) = v2 at *
  have D2 := Lib.hid (D1.out.next hb)
  have HB2 := Lib.hid (Below.next HB1.out hb)
  have HW2 := Lib.hid hw
  have HNE : Hid (¬ w.heap.size = w1.heap.size) := by
    show ¬ _ = _
    have := D1.out.lt
    omega
  clear hb hw D1 HB1
  generalize w1.heap.size = b5 at *
  refine (HF.out _ _ (HK.out.next HB2.out) HW2.out).mono ?_
  rintro e w3 ⟨rfl, hb⟩
  have D3 := Lib.hid (D2.out.next hb)
  have HB3 := Lib.hid (Below.next HB2.out hb)
  have HW3 := Lib.hid ((hb.cell (p := ⟨b5, 0, none⟩) (block_lt_of_cell HW2.out)).trans HW2.out)
  clear hb D2 HB2 HW2 HF
  cases f with
  | none =>
    have HE : Hid (cn s.data.toList = (nz, 0, 10)) := HM
    clear HM HW3
    unfold fdv
    have r0 := D3.out.c 0 _ rfl; have r1 := D3.out.c 1 _ rfl; have r2 := D3.out.c 2 _ rfl; have r3 := D3.out.c 3 _ rfl; have r4 := D3.out.c 4 _ rfl; have r5 := D3.out.c 5 _ rfl
    have f0 := D3.out.f 0 _ rfl; have f1 := D3.out.f 1 _ rfl; have f2 := D3.out.f 2 _ rfl; have f3 := D3.out.f 3 _ rfl; have f4 := D3.out.f 4 _ rfl; have f5 := D3.out.f 5 _ rfl
    have RH := Lib.hid (D3.out.all6 rfl)
    go_wp2_with (fail)
    have RF := RH.out (.int .i64 0) (.int .i64 0) (.int .i64 0) (.string ⟨#[]⟩) (.int .i64 0) (.int .i64 0)
    have c0 := RF.c 0 _ rfl; have c1 := RF.c 1 _ rfl; have c2 := RF.c 2 _ rfl; have c3 := RF.c 3 _ rfl; have c4 := RF.c 4 _ rfl; have c5 := RF.c 5 _ rfl
    clear RF
    rw [HE.out]
    refine bodyPost_ret (v := cpv (nz, 0, 10)) (by simp [results, Tryz.results75, go_sem, c0, c1, c2, c3, c4, c5]; rfl) rfl ⟨rfl, ?_⟩
    exact below_all6 (HB3.out) (Nat.le_refl _) _ _ _ _ _ _
  | some i =>
    have HE : Hid (cn s.data.toList = (⟨1, nv (i : Int)⟩, (tx word).size, 0)) := HM
    clear HM
    unfold fdv
    have hw3 := HW3.out
    go_wp2_with (fail)
    have hne : ¬ w.heap.size = b5 := HNE.out
    have hne2 : ¬ b5 = w.heap.size := fun e => HNE.out e.symm
    have HN := Lib.hid (nameNumber_any (i : Int))
    go_region_with (refine (HN.out _).mono ?_; rintro e w4 ⟨rfl, hb⟩; have D4 := D3.out.drew.next hb; have HB4 := Lib.hid (Below.next (below_drewN HB3.out 1) hb); have hw4 : w4.cell? ⟨b5, 0, none⟩ = some (.string (tx word)) := (hb.cell (p := ⟨b5, 0, none⟩) (block_lt_of_cell HW3.out)).trans HW3.out; have r0 := D4.c 0 _ rfl; have r1 := D4.c 1 _ rfl; have r2 := D4.c 2 _ rfl; have r3 := D4.c 3 _ rfl; have r4 := D4.c 4 _ rfl; have r5 := D4.c 5 _ rfl; have f0 := D4.f 0 _ rfl; have f1 := D4.f 1 _ rfl; have f2 := D4.f 2 _ rfl; have f3 := D4.f 3 _ rfl; have f4 := D4.f 4 _ rfl; have f5 := D4.f 5 _ rfl; have RH := Lib.hid (D4.all6 rfl))
    all_goals
      go_wp2_with (fail)
      have RF := RH.out (.int .i64 1) (.int .i64 0) (.int .i64 (i : Int)) (.string ⟨#[]⟩) (.int .i64 0) (.int .i64 0)
      have c0 := RF.c 0 _ rfl; have c1 := RF.c 1 _ rfl; have c2 := RF.c 2 _ rfl; have c3 := RF.c 3 _ rfl; have c4 := RF.c 4 _ rfl; have c5 := RF.c 5 _ rfl
      clear RF
      rw [HE.out]
      refine bodyPost_ret (v := cpv (⟨1, nv (i : Int)⟩, (tx word).size, 0)) (by simp [results, Tryz.results75, go_sem, c0, c1, c2, c3, c4, c5]; rfl) rfl ⟨rfl, ?_⟩
      exact below_all6 HB4.out (Nat.le_refl _) _ _ _ _ _ _
end Go.Proofs.YtcdjincaedpodaaGreatDoor.Ex
/-
  What cutPart answers (written by gen_expart.py).
-/
namespace Go.Proofs.YtcdjincaedpodaaGreatDoor.Ex
open Go.ChangeShapes Go.WideShapes Go.ChangeAt Go.RowKit Go.Proofs.YtcdjincaedpodaaGreatDoor.Ov Go.Proofs.YtcdjincaedpodaaGreatDoor.Va

theorem ne_nil_of {s : ByteArray} (h : s.size ≠ 0) : s.data.toList ≠ [] := by rw [← ByteArray.toList_eq]; exact full_of h
set_option maxRecDepth 100000 in
set_option maxHeartbeats 2000000 in
theorem part_end (s : ByteArray) (b wi : Nat) (w : World) (hz : s.size = 0) : Calls Tryz.prog 30 #[.string s, .int .i64 (b : Int), .int .i64 (wi : Int)] w (Gives (cpv (cp s.data.toList b wi)) w) := by
  have h1 := empty_of hz
  have h1' : s.toList.isEmpty = true := by rw [h1]; rfl
  have HE : Hid (cp s.data.toList b wi = (nz, 0, 2)) := by show _ = _; rw [← ByteArray.toList_eq, h1]; rfl
  clear h1 hz
  go_enter Tryz.func30, Tryz.ntmps30
  go_wp2_with (fail)
  rw [HE.out]
  refine bodyPost_ret (v := cpv (nz, 0, 2)) (by simp [results, Tryz.results30, go_sem]; rfl) rfl ⟨rfl, ?_⟩
  exact box1 w _
set_option maxRecDepth 100000 in
set_option maxHeartbeats 2000000 in
theorem part_many (s : ByteArray) (b wi : Nat) (w : World) (hz : s.size ≠ 0) (hb : b = 400) : Calls Tryz.prog 30 #[.string s, .int .i64 (b : Int), .int .i64 (wi : Int)] w (Gives (cpv (cp s.data.toList b wi)) w) := by
  have h1' : s.toList.isEmpty = false := by simpa using full_of hz
  have hn := ne_nil_of hz
  subst hb
  have HE : Hid (cp s.data.toList 400 wi = (nz, 0, 22)) := by show _ = _; unfold cp; rw [if_neg hn, if_pos rfl]
  clear hn hz
  go_enter Tryz.func30, Tryz.ntmps30
  go_wp2_with (fail)
  rw [HE.out]
  refine bodyPost_ret (v := cpv (nz, 0, 22)) (by simp [results, Tryz.results30, go_sem]; rfl) rfl ⟨rfl, ?_⟩
  exact box1 w _
set_option maxRecDepth 100000 in
set_option maxHeartbeats 2000000 in
theorem part_nest (s : ByteArray) (b wi : Nat) (w : World) (hz : s.size ≠ 0) (hb : b ≠ 400) (hw : 24 < wi) : Calls Tryz.prog 30 #[.string s, .int .i64 (b : Int), .int .i64 (wi : Int)] w (Gives (cpv (cp s.data.toList b wi)) w) := by
  have h1' : s.toList.isEmpty = false := by simpa using full_of hz
  have hn := ne_nil_of hz
  have HE : Hid (cp s.data.toList b wi = (nz, 0, 23)) := by show _ = _; unfold cp; rw [if_neg hn, if_neg hb, if_pos hw]
  have g1 : ((b : Int) == 400) = false := by rw [beq_eq_false_iff_ne]; omega
  have g2 : (24 : Int) < (wi : Int) := by omega
  clear hn hz hb hw
  go_enter Tryz.func30, Tryz.ntmps30
  go_wp2_with (fail)
  rw [HE.out]
  refine bodyPost_ret (v := cpv (nz, 0, 23)) (by simp [results, Tryz.results30, go_sem]; rfl) rfl ⟨rfl, ?_⟩
  exact box1 w _
set_option maxRecDepth 100000 in
set_option maxHeartbeats 2000000 in
theorem part_arity (s : ByteArray) (b wi : Nat) (w : World) (hz : s.size ≠ 0) (hb : b ≠ 400) (hw : ¬ 24 < wi) (h0 : 0 < wi) (h41 : s.data.toList.head? = some 41) : Calls Tryz.prog 30 #[.string s, .int .i64 (b : Int), .int .i64 (wi : Int)] w (Gives (cpv (cp s.data.toList b wi)) w) := by
  have h1' : s.toList.isEmpty = false := by simpa using full_of hz
  have hn := ne_nil_of hz
  have h3 : 0 < s.size := by omega
  have hh := head_at h3
  obtain ⟨c, hc⟩ : ∃ c : UInt8, s[0]'h3 = c := ⟨_, rfl⟩
  rw [hc] at hh
  have g1 : ((b : Int) == 400) = false := by rw [beq_eq_false_iff_ne]; omega
  have g2 : ¬ (24 : Int) < (wi : Int) := by omega
  rw [h41] at hh
  obtain rfl := Option.some.inj hh
  have HE : Hid (cp s.data.toList b wi = (nz, 0, 12)) := by show _ = _; unfold cp; rw [if_neg hn, if_neg hb, if_neg hw, if_pos ⟨h0, h41⟩]
  have g3 : (0 : Int) < (wi : Int) := by omega
  clear hn hz hb hw h41 hh h0
  go_enter Tryz.func30, Tryz.ntmps30
  go_wp2_with (fail)
  rw [HE.out]
  refine bodyPost_ret (v := cpv (nz, 0, 12)) (by simp [results, Tryz.results30, go_sem]; rfl) rfl ⟨rfl, ?_⟩
  exact box1 w _
set_option maxRecDepth 100000 in
set_option maxHeartbeats 2000000 in
theorem part_kind0 (s : ByteArray) (b wi : Nat) (w : World) (hz : s.size ≠ 0) (hb : b ≠ 400) (hw : wi = 0) (h40 : s.data.toList.head? = some 40) (hs : s.size ≤ 281474976710656) (hk : KN w) : Calls Tryz.prog 30 #[.string s, .int .i64 (b : Int), .int .i64 (wi : Int)] w (Gives (cpv (cp s.data.toList b wi)) w) := by
  subst hw
  have hw : ¬ 24 < 0 := by omega
  have h41 : ¬ (0 < 0 ∧ s.data.toList.head? = some 41) := fun h => absurd h.1 (by omega)
  have h1' : s.toList.isEmpty = false := by simpa using full_of hz
  have hn := ne_nil_of hz
  have h3 : 0 < s.size := by omega
  have hh := head_at h3
  obtain ⟨c, hc⟩ : ∃ c : UInt8, s[0]'h3 = c := ⟨_, rfl⟩
  rw [hc] at hh
  have g1 : ((b : Int) == 400) = false := by rw [beq_eq_false_iff_ne]; omega
  have HE : Hid (cp s.data.toList b 0 = ck s.data.toList) := by show _ = _; unfold cp; rw [if_neg hn, if_neg hb, if_neg hw, if_neg h41, if_pos h40]
  rw [h40] at hh
  obtain rfl := Option.some.inj hh
  clear hn hz hb hw h41 hh h40
  have HC := Lib.hid (fun w hk => cutKind_any s h3 hs w hk)
  have HK := Lib.hid hk; clear hk
  rw [HE.out]; clear HE
  have HE : Hid (True) := trivial
  generalize ck s.data.toList = r at *
  obtain ⟨nn, z, e⟩ := r
  go_enter Tryz.func30, Tryz.ntmps30
  go_wp2_with (fail)
  have kb := Lib.hid (box1 w (.cells #[.int .i64 0, .int .i64 0, .int .i64 0, .string ⟨#[]⟩, .int .i64 0, .int .i64 0] 59))
  have D := Lib.hid (Blk.made w 59 (ncs 0 0 0 ⟨#[]⟩ 0 0) rfl)
  change Hid (Blk (w.alloc (.cells #[.int .i64 0, .int .i64 0, .int .i64 0, .string ⟨#[]⟩, .int .i64 0, .int .i64 0] 59)) w.heap.size _) at D
  generalize w.alloc (.cells #[.int .i64 0, .int .i64 0, .int .i64 0, .string ⟨#[]⟩, .int .i64 0, .int .i64 0] 59) = v at *
  refine (HC.out _ (HK.out.next kb.out)).mono ?_
  rintro e w1 ⟨rfl, hb⟩
  have D1 := D.out.next hb
  have HB1 := Lib.hid (Below.next kb.out hb)
  clear hb D kb HC
  unfold cpv nov
  have r0 := D1.c 0 _ rfl; have r1 := D1.c 1 _ rfl; have r2 := D1.c 2 _ rfl; have r3 := D1.c 3 _ rfl; have r4 := D1.c 4 _ rfl; have r5 := D1.c 5 _ rfl
  have f0 := D1.f 0 _ rfl; have f1 := D1.f 1 _ rfl; have f2 := D1.f 2 _ rfl; have f3 := D1.f 3 _ rfl; have f4 := D1.f 4 _ rfl; have f5 := D1.f 5 _ rfl
  have RH := Lib.hid (D1.all6 rfl)
  clear D1
  go_wp2_with (fail)
  have RF := RH.out (.int .i64 nn.o) (.int .i64 nn.v.k) (.int .i64 nn.v.n) (.string (tx nn.v.s)) (.int .i64 nn.v.x) (.int .i64 nn.v.y)
  have c0 := RF.c 0 _ rfl; have c1 := RF.c 1 _ rfl; have c2 := RF.c 2 _ rfl; have c3 := RF.c 3 _ rfl; have c4 := RF.c 4 _ rfl; have c5 := RF.c 5 _ rfl
  clear RF
  refine bodyPost_ret (v := cpv (nn, z, e)) (by simp [results, Tryz.results30, go_sem, c0, c1, c2, c3, c4, c5]; rfl) rfl ⟨rfl, ?_⟩
  exact below_all6 HB1.out (Nat.le_refl _) _ _ _ _ _ _
set_option maxRecDepth 100000 in
set_option maxHeartbeats 2000000 in
theorem part_kind1 (s : ByteArray) (b wi : Nat) (w : World) (hz : s.size ≠ 0) (hb : b ≠ 400) (hw : ¬ 24 < wi) (h0 : 0 < wi) (h41 : ¬ s.data.toList.head? = some 41) (h40 : s.data.toList.head? = some 40) (hs : s.size ≤ 281474976710656) (hk : KN w) : Calls Tryz.prog 30 #[.string s, .int .i64 (b : Int), .int .i64 (wi : Int)] w (Gives (cpv (cp s.data.toList b wi)) w) := by
  have h1' : s.toList.isEmpty = false := by simpa using full_of hz
  have hn := ne_nil_of hz
  have h3 : 0 < s.size := by omega
  have hh := head_at h3
  obtain ⟨c, hc⟩ : ∃ c : UInt8, s[0]'h3 = c := ⟨_, rfl⟩
  rw [hc] at hh
  have g1 : ((b : Int) == 400) = false := by rw [beq_eq_false_iff_ne]; omega
  have g2 : ¬ (24 : Int) < (wi : Int) := by omega
  have g3 : (0 : Int) < (wi : Int) := by omega
  have g4 : ((c.toNat : Int) == 41) = false := by
    rw [beq_eq_false_iff_ne]
    intro e
    exact h41 (by rw [hh, UInt8.toNat_inj.1 (show c.toNat = (41 : UInt8).toNat by show c.toNat = 41; omega)])
  have h41 : ¬ (0 < wi ∧ s.data.toList.head? = some 41) := fun h => h41 h.2
  have HE : Hid (cp s.data.toList b wi = ck s.data.toList) := by show _ = _; unfold cp; rw [if_neg hn, if_neg hb, if_neg hw, if_neg h41, if_pos h40]
  rw [h40] at hh
  obtain rfl := Option.some.inj hh
  clear hn hz hb hw h41 hh h40
  have HC := Lib.hid (fun w hk => cutKind_any s h3 hs w hk)
  have HK := Lib.hid hk; clear hk
  rw [HE.out]; clear HE
  have HE : Hid (True) := trivial
  generalize ck s.data.toList = r at *
  obtain ⟨nn, z, e⟩ := r
  go_enter Tryz.func30, Tryz.ntmps30
  go_wp2_with (fail)
  have kb := Lib.hid (box1 w (.cells #[.int .i64 0, .int .i64 0, .int .i64 0, .string ⟨#[]⟩, .int .i64 0, .int .i64 0] 59))
  have D := Lib.hid (Blk.made w 59 (ncs 0 0 0 ⟨#[]⟩ 0 0) rfl)
  change Hid (Blk (w.alloc (.cells #[.int .i64 0, .int .i64 0, .int .i64 0, .string ⟨#[]⟩, .int .i64 0, .int .i64 0] 59)) w.heap.size _) at D
  generalize w.alloc (.cells #[.int .i64 0, .int .i64 0, .int .i64 0, .string ⟨#[]⟩, .int .i64 0, .int .i64 0] 59) = v at *
  refine (HC.out _ (HK.out.next kb.out)).mono ?_
  rintro e w1 ⟨rfl, hb⟩
  have D1 := D.out.next hb
  have HB1 := Lib.hid (Below.next kb.out hb)
  clear hb D kb HC
  unfold cpv nov
  have r0 := D1.c 0 _ rfl; have r1 := D1.c 1 _ rfl; have r2 := D1.c 2 _ rfl; have r3 := D1.c 3 _ rfl; have r4 := D1.c 4 _ rfl; have r5 := D1.c 5 _ rfl
  have f0 := D1.f 0 _ rfl; have f1 := D1.f 1 _ rfl; have f2 := D1.f 2 _ rfl; have f3 := D1.f 3 _ rfl; have f4 := D1.f 4 _ rfl; have f5 := D1.f 5 _ rfl
  have RH := Lib.hid (D1.all6 rfl)
  clear D1
  go_wp2_with (fail)
  have RF := RH.out (.int .i64 nn.o) (.int .i64 nn.v.k) (.int .i64 nn.v.n) (.string (tx nn.v.s)) (.int .i64 nn.v.x) (.int .i64 nn.v.y)
  have c0 := RF.c 0 _ rfl; have c1 := RF.c 1 _ rfl; have c2 := RF.c 2 _ rfl; have c3 := RF.c 3 _ rfl; have c4 := RF.c 4 _ rfl; have c5 := RF.c 5 _ rfl
  clear RF
  refine bodyPost_ret (v := cpv (nn, z, e)) (by simp [results, Tryz.results30, go_sem, c0, c1, c2, c3, c4, c5]; rfl) rfl ⟨rfl, ?_⟩
  exact below_all6 HB1.out (Nat.le_refl _) _ _ _ _ _ _
set_option maxRecDepth 100000 in
set_option maxHeartbeats 2000000 in
theorem part_value0 (s : ByteArray) (b wi : Nat) (w : World) (hz : s.size ≠ 0) (hb : b ≠ 400) (hw : wi = 0) (h40 : ¬ s.data.toList.head? = some 40) (hs : s.size ≤ 281474976710656) (hk : KN w) : Calls Tryz.prog 30 #[.string s, .int .i64 (b : Int), .int .i64 (wi : Int)] w (Gives (cpv (cp s.data.toList b wi)) w) := by
  subst hw
  have hw : ¬ 24 < 0 := by omega
  have h41 : ¬ (0 < 0 ∧ s.data.toList.head? = some 41) := fun h => absurd h.1 (by omega)
  have h1' : s.toList.isEmpty = false := by simpa using full_of hz
  have hn := ne_nil_of hz
  have h3 : 0 < s.size := by omega
  have hh := head_at h3
  obtain ⟨c, hc⟩ : ∃ c : UInt8, s[0]'h3 = c := ⟨_, rfl⟩
  rw [hc] at hh
  have g1 : ((b : Int) == 400) = false := by rw [beq_eq_false_iff_ne]; omega
  have HE0 : Hid (cp s.data.toList b 0 = cv s.data.toList) := by show _ = _; unfold cp; rw [if_neg hn, if_neg hb, if_neg hw, if_neg h41, if_neg h40]
  have g5 : ((c.toNat : Int) == 40) = false := by
    rw [beq_eq_false_iff_ne]
    intro e
    exact h40 (by rw [hh, UInt8.toNat_inj.1 (show c.toNat = (40 : UInt8).toNat by show c.toNat = 40; omega)])
  clear hn hz hb hw h41 hh h40
  have HV := Lib.hid (fun w => parse_any s w hs)
  have HN := Lib.hid (fun w hk => cutName_any s w hk)
  have HK := Lib.hid hk; clear hk
  have HC : Hid (cv s.data.toList = if (pz s.data.toList).2.2 = 10 then cn s.data.toList else if (pz s.data.toList).2.2 ≠ 0 then (nz, 0, (pz s.data.toList).2.2) else (⟨0, (pz s.data.toList).1⟩, (pz s.data.toList).2.1, 0)) := rfl
  generalize pz s.data.toList = r at *
  obtain ⟨vv', z, k⟩ := r
  dsimp only at HC
  by_cases hk10 : k = 10
  · have HE := Lib.hid (HE0.out.trans (HC.out.trans (if_pos hk10)))
    subst hk10
    clear HC HE0
    rw [HE.out]; clear HE
    generalize cn s.data.toList = q at *
    obtain ⟨nn, z', e'⟩ := q
    go_enter Tryz.func30, Tryz.ntmps30
    go_wp2_with (fail)
    have kb := Lib.hid (box1 w (.cells #[.int .i64 0, .int .i64 0, .int .i64 0, .string ⟨#[]⟩, .int .i64 0, .int .i64 0] 59))
    have D := Lib.hid (Blk.made w 59 (ncs 0 0 0 ⟨#[]⟩ 0 0) rfl)
    change Hid (Blk (w.alloc (.cells #[.int .i64 0, .int .i64 0, .int .i64 0, .string ⟨#[]⟩, .int .i64 0, .int .i64 0] 59)) w.heap.size _) at D
    generalize w.alloc (.cells #[.int .i64 0, .int .i64 0, .int .i64 0, .string ⟨#[]⟩, .int .i64 0, .int .i64 0] 59) = v at *
    refine (HV.out _).mono ?_
    rintro e w1 ⟨rfl, hb⟩
    have D1 := D.out.next hb
    have HB1 := Lib.hid (Below.next kb.out hb)
    clear hb D kb HV
    unfold prv vv
    go_wp2_with (fail)
    have hb := box1 w1 (.cells #[.int .i64 vv'.k, .int .i64 vv'.n, .string (tx vv'.s), .int .i64 vv'.x, .int .i64 vv'.y] 26)
    generalize w1.alloc (.cells #[.int .i64 vv'.k, .int .i64 vv'.n, .string (tx vv'.s), .int .i64 vv'.x, .int .i64 vv'.y] 26) = v2 at *
    have D2 := D1.next hb
    have HB2 := Lib.hid (Below.next HB1.out hb)
    clear hb D1
    refine (HN.out _ (HK.out.next HB2.out)).mono ?_
    rintro e w3 ⟨rfl, hb⟩
    have D3 := D2.next hb
    have HB3 := Lib.hid (Below.next HB2.out hb)
    clear hb D2 HN
    unfold cpv nov
    have r0 := D3.c 0 _ rfl; have r1 := D3.c 1 _ rfl; have r2 := D3.c 2 _ rfl; have r3 := D3.c 3 _ rfl; have r4 := D3.c 4 _ rfl; have r5 := D3.c 5 _ rfl
    have f0 := D3.f 0 _ rfl; have f1 := D3.f 1 _ rfl; have f2 := D3.f 2 _ rfl; have f3 := D3.f 3 _ rfl; have f4 := D3.f 4 _ rfl; have f5 := D3.f 5 _ rfl
    have RH := Lib.hid (D3.all6 rfl)
    clear D3
    go_wp2_with (fail)
    have RF := RH.out (.int .i64 nn.o) (.int .i64 nn.v.k) (.int .i64 nn.v.n) (.string (tx nn.v.s)) (.int .i64 nn.v.x) (.int .i64 nn.v.y)
    have c0 := RF.c 0 _ rfl; have c1 := RF.c 1 _ rfl; have c2 := RF.c 2 _ rfl; have c3 := RF.c 3 _ rfl; have c4 := RF.c 4 _ rfl; have c5 := RF.c 5 _ rfl
    clear RF
    refine bodyPost_ret (v := cpv (nn, z', e')) (by simp [results, Tryz.results30, go_sem, c0, c1, c2, c3, c4, c5]; rfl) rfl ⟨rfl, ?_⟩
    exact below_all6 HB3.out (Nat.le_refl _) _ _ _ _ _ _
  by_cases hk0 : k ≠ 0
  · have HE := Lib.hid (HE0.out.trans (HC.out.trans ((if_neg hk10).trans (if_pos hk0))))
    have g6 : ((k : Int) == 10) = false := by rw [beq_eq_false_iff_ne]; omega
    have g7 : ((k : Int) != 0) = true := by rw [bne_iff_ne]; omega
    clear HC HE0 hk10 hk0 HN
    go_enter Tryz.func30, Tryz.ntmps30
    go_wp2_with (fail)
    have kb := Lib.hid (box1 w (.cells #[.int .i64 0, .int .i64 0, .int .i64 0, .string ⟨#[]⟩, .int .i64 0, .int .i64 0] 59))
    have D := Lib.hid (Blk.made w 59 (ncs 0 0 0 ⟨#[]⟩ 0 0) rfl)
    change Hid (Blk (w.alloc (.cells #[.int .i64 0, .int .i64 0, .int .i64 0, .string ⟨#[]⟩, .int .i64 0, .int .i64 0] 59)) w.heap.size _) at D
    generalize w.alloc (.cells #[.int .i64 0, .int .i64 0, .int .i64 0, .string ⟨#[]⟩, .int .i64 0, .int .i64 0] 59) = v at *
    refine (HV.out _).mono ?_
    rintro e w1 ⟨rfl, hb⟩
    have D1 := D.out.next hb
    have HB1 := Lib.hid (Below.next kb.out hb)
    clear hb D kb HV
    unfold prv vv
    have hb := box1 w1 (.cells #[.int .i64 vv'.k, .int .i64 vv'.n, .string (tx vv'.s), .int .i64 vv'.x, .int .i64 vv'.y] 26)
    have D2 := D1.next hb
    have HB2 := Lib.hid (Below.next HB1.out hb)
    clear hb D1
    have r0 := D2.c 0 _ rfl; have r1 := D2.c 1 _ rfl; have r2 := D2.c 2 _ rfl; have r3 := D2.c 3 _ rfl; have r4 := D2.c 4 _ rfl; have r5 := D2.c 5 _ rfl
    have f0 := D2.f 0 _ rfl; have f1 := D2.f 1 _ rfl; have f2 := D2.f 2 _ rfl; have f3 := D2.f 3 _ rfl; have f4 := D2.f 4 _ rfl; have f5 := D2.f 5 _ rfl
    have RH := Lib.hid (D2.all6 rfl)
    clear D2
    go_wp2_with (fail)
    have RF := RH.out (.int .i64 0) (.int .i64 0) (.int .i64 0) (.string ⟨#[]⟩) (.int .i64 0) (.int .i64 0)
    have c0 := RF.c 0 _ rfl; have c1 := RF.c 1 _ rfl; have c2 := RF.c 2 _ rfl; have c3 := RF.c 3 _ rfl; have c4 := RF.c 4 _ rfl; have c5 := RF.c 5 _ rfl
    clear RF
    rw [HE.out]
    refine bodyPost_ret (v := cpv (nz, 0, k)) (by simp [results, Tryz.results30, go_sem, c0, c1, c2, c3, c4, c5]; rfl) rfl ⟨rfl, ?_⟩
    exact below_all6 (HB2.out) (Nat.le_refl _) _ _ _ _ _ _
  · have hk0 : k = 0 := by omega
    have HE := Lib.hid (HE0.out.trans (HC.out.trans ((if_neg (by omega)).trans (if_neg (fun h => h hk0)))))
    subst hk0
    clear HC HE0 HN
    go_enter Tryz.func30, Tryz.ntmps30
    go_wp2_with (fail)
    have kb := Lib.hid (box1 w (.cells #[.int .i64 0, .int .i64 0, .int .i64 0, .string ⟨#[]⟩, .int .i64 0, .int .i64 0] 59))
    have D := Lib.hid (Blk.made w 59 (ncs 0 0 0 ⟨#[]⟩ 0 0) rfl)
    change Hid (Blk (w.alloc (.cells #[.int .i64 0, .int .i64 0, .int .i64 0, .string ⟨#[]⟩, .int .i64 0, .int .i64 0] 59)) w.heap.size _) at D
    generalize w.alloc (.cells #[.int .i64 0, .int .i64 0, .int .i64 0, .string ⟨#[]⟩, .int .i64 0, .int .i64 0] 59) = v at *
    refine (HV.out _).mono ?_
    rintro e w1 ⟨rfl, hb⟩
    have D1 := D.out.next hb
    have HB1 := Lib.hid (Below.next kb.out hb)
    clear hb D kb HV
    unfold prv vv
    have hb := box1 w1 (.cells #[.int .i64 vv'.k, .int .i64 vv'.n, .string (tx vv'.s), .int .i64 vv'.x, .int .i64 vv'.y] 26)
    have D2 := D1.next hb
    have HB2 := Lib.hid (Below.next HB1.out hb)
    clear hb D1
    have r0 := D2.c 0 _ rfl; have r1 := D2.c 1 _ rfl; have r2 := D2.c 2 _ rfl; have r3 := D2.c 3 _ rfl; have r4 := D2.c 4 _ rfl; have r5 := D2.c 5 _ rfl
    have f0 := D2.f 0 _ rfl; have f1 := D2.f 1 _ rfl; have f2 := D2.f 2 _ rfl; have f3 := D2.f 3 _ rfl; have f4 := D2.f 4 _ rfl; have f5 := D2.f 5 _ rfl
    have RH := Lib.hid (D2.all6 rfl)
    clear D2
    go_wp2_with (fail)
    have RF := RH.out (.int .i64 0) (.int .i64 vv'.k) (.int .i64 vv'.n) (.string (tx vv'.s)) (.int .i64 vv'.x) (.int .i64 vv'.y)
    have c0 := RF.c 0 _ rfl; have c1 := RF.c 1 _ rfl; have c2 := RF.c 2 _ rfl; have c3 := RF.c 3 _ rfl; have c4 := RF.c 4 _ rfl; have c5 := RF.c 5 _ rfl
    clear RF
    rw [HE.out]
    refine bodyPost_ret (v := cpv (⟨0, vv'⟩, z, 0)) (by simp [results, Tryz.results30, go_sem, c0, c1, c2, c3, c4, c5]; rfl) rfl ⟨rfl, ?_⟩
    exact below_all6 (HB2.out) (Nat.le_refl _) _ _ _ _ _ _
set_option maxRecDepth 100000 in
set_option maxHeartbeats 2000000 in
theorem part_value1 (s : ByteArray) (b wi : Nat) (w : World) (hz : s.size ≠ 0) (hb : b ≠ 400) (hw : ¬ 24 < wi) (h0 : 0 < wi) (h41 : ¬ s.data.toList.head? = some 41) (h40 : ¬ s.data.toList.head? = some 40) (hs : s.size ≤ 281474976710656) (hk : KN w) : Calls Tryz.prog 30 #[.string s, .int .i64 (b : Int), .int .i64 (wi : Int)] w (Gives (cpv (cp s.data.toList b wi)) w) := by
  have h1' : s.toList.isEmpty = false := by simpa using full_of hz
  have hn := ne_nil_of hz
  have h3 : 0 < s.size := by omega
  have hh := head_at h3
  obtain ⟨c, hc⟩ : ∃ c : UInt8, s[0]'h3 = c := ⟨_, rfl⟩
  rw [hc] at hh
  have g1 : ((b : Int) == 400) = false := by rw [beq_eq_false_iff_ne]; omega
  have g2 : ¬ (24 : Int) < (wi : Int) := by omega
  have g3 : (0 : Int) < (wi : Int) := by omega
  have g4 : ((c.toNat : Int) == 41) = false := by
    rw [beq_eq_false_iff_ne]
    intro e
    exact h41 (by rw [hh, UInt8.toNat_inj.1 (show c.toNat = (41 : UInt8).toNat by show c.toNat = 41; omega)])
  have h41 : ¬ (0 < wi ∧ s.data.toList.head? = some 41) := fun h => h41 h.2
  have HE0 : Hid (cp s.data.toList b wi = cv s.data.toList) := by show _ = _; unfold cp; rw [if_neg hn, if_neg hb, if_neg hw, if_neg h41, if_neg h40]
  have g5 : ((c.toNat : Int) == 40) = false := by
    rw [beq_eq_false_iff_ne]
    intro e
    exact h40 (by rw [hh, UInt8.toNat_inj.1 (show c.toNat = (40 : UInt8).toNat by show c.toNat = 40; omega)])
  clear hn hz hb hw h41 hh h40
  have HV := Lib.hid (fun w => parse_any s w hs)
  have HN := Lib.hid (fun w hk => cutName_any s w hk)
  have HK := Lib.hid hk; clear hk
  have HC : Hid (cv s.data.toList = if (pz s.data.toList).2.2 = 10 then cn s.data.toList else if (pz s.data.toList).2.2 ≠ 0 then (nz, 0, (pz s.data.toList).2.2) else (⟨0, (pz s.data.toList).1⟩, (pz s.data.toList).2.1, 0)) := rfl
  generalize pz s.data.toList = r at *
  obtain ⟨vv', z, k⟩ := r
  dsimp only at HC
  by_cases hk10 : k = 10
  · have HE := Lib.hid (HE0.out.trans (HC.out.trans (if_pos hk10)))
    subst hk10
    clear HC HE0
    rw [HE.out]; clear HE
    generalize cn s.data.toList = q at *
    obtain ⟨nn, z', e'⟩ := q
    go_enter Tryz.func30, Tryz.ntmps30
    go_wp2_with (fail)
    have kb := Lib.hid (box1 w (.cells #[.int .i64 0, .int .i64 0, .int .i64 0, .string ⟨#[]⟩, .int .i64 0, .int .i64 0] 59))
    have D := Lib.hid (Blk.made w 59 (ncs 0 0 0 ⟨#[]⟩ 0 0) rfl)
    change Hid (Blk (w.alloc (.cells #[.int .i64 0, .int .i64 0, .int .i64 0, .string ⟨#[]⟩, .int .i64 0, .int .i64 0] 59)) w.heap.size _) at D
    generalize w.alloc (.cells #[.int .i64 0, .int .i64 0, .int .i64 0, .string ⟨#[]⟩, .int .i64 0, .int .i64 0] 59) = v at *
    refine (HV.out _).mono ?_
    rintro e w1 ⟨rfl, hb⟩
    have D1 := D.out.next hb
    have HB1 := Lib.hid (Below.next kb.out hb)
    clear hb D kb HV
    unfold prv vv
    go_wp2_with (fail)
    have hb := box1 w1 (.cells #[.int .i64 vv'.k, .int .i64 vv'.n, .string (tx vv'.s), .int .i64 vv'.x, .int .i64 vv'.y] 26)
    generalize w1.alloc (.cells #[.int .i64 vv'.k, .int .i64 vv'.n, .string (tx vv'.s), .int .i64 vv'.x, .int .i64 vv'.y] 26) = v2 at *
    have D2 := D1.next hb
    have HB2 := Lib.hid (Below.next HB1.out hb)
    clear hb D1
    refine (HN.out _ (HK.out.next HB2.out)).mono ?_
    rintro e w3 ⟨rfl, hb⟩
    have D3 := D2.next hb
    have HB3 := Lib.hid (Below.next HB2.out hb)
    clear hb D2 HN
    unfold cpv nov
    have r0 := D3.c 0 _ rfl; have r1 := D3.c 1 _ rfl; have r2 := D3.c 2 _ rfl; have r3 := D3.c 3 _ rfl; have r4 := D3.c 4 _ rfl; have r5 := D3.c 5 _ rfl
    have f0 := D3.f 0 _ rfl; have f1 := D3.f 1 _ rfl; have f2 := D3.f 2 _ rfl; have f3 := D3.f 3 _ rfl; have f4 := D3.f 4 _ rfl; have f5 := D3.f 5 _ rfl
    have RH := Lib.hid (D3.all6 rfl)
    clear D3
    go_wp2_with (fail)
    have RF := RH.out (.int .i64 nn.o) (.int .i64 nn.v.k) (.int .i64 nn.v.n) (.string (tx nn.v.s)) (.int .i64 nn.v.x) (.int .i64 nn.v.y)
    have c0 := RF.c 0 _ rfl; have c1 := RF.c 1 _ rfl; have c2 := RF.c 2 _ rfl; have c3 := RF.c 3 _ rfl; have c4 := RF.c 4 _ rfl; have c5 := RF.c 5 _ rfl
    clear RF
    refine bodyPost_ret (v := cpv (nn, z', e')) (by simp [results, Tryz.results30, go_sem, c0, c1, c2, c3, c4, c5]; rfl) rfl ⟨rfl, ?_⟩
    exact below_all6 HB3.out (Nat.le_refl _) _ _ _ _ _ _
  by_cases hk0 : k ≠ 0
  · have HE := Lib.hid (HE0.out.trans (HC.out.trans ((if_neg hk10).trans (if_pos hk0))))
    have g6 : ((k : Int) == 10) = false := by rw [beq_eq_false_iff_ne]; omega
    have g7 : ((k : Int) != 0) = true := by rw [bne_iff_ne]; omega
    clear HC HE0 hk10 hk0 HN
    go_enter Tryz.func30, Tryz.ntmps30
    go_wp2_with (fail)
    have kb := Lib.hid (box1 w (.cells #[.int .i64 0, .int .i64 0, .int .i64 0, .string ⟨#[]⟩, .int .i64 0, .int .i64 0] 59))
    have D := Lib.hid (Blk.made w 59 (ncs 0 0 0 ⟨#[]⟩ 0 0) rfl)
    change Hid (Blk (w.alloc (.cells #[.int .i64 0, .int .i64 0, .int .i64 0, .string ⟨#[]⟩, .int .i64 0, .int .i64 0] 59)) w.heap.size _) at D
    generalize w.alloc (.cells #[.int .i64 0, .int .i64 0, .int .i64 0, .string ⟨#[]⟩, .int .i64 0, .int .i64 0] 59) = v at *
    refine (HV.out _).mono ?_
    rintro e w1 ⟨rfl, hb⟩
    have D1 := D.out.next hb
    have HB1 := Lib.hid (Below.next kb.out hb)
    clear hb D kb HV
    unfold prv vv
    have hb := box1 w1 (.cells #[.int .i64 vv'.k, .int .i64 vv'.n, .string (tx vv'.s), .int .i64 vv'.x, .int .i64 vv'.y] 26)
    have D2 := D1.next hb
    have HB2 := Lib.hid (Below.next HB1.out hb)
    clear hb D1
    have r0 := D2.c 0 _ rfl; have r1 := D2.c 1 _ rfl; have r2 := D2.c 2 _ rfl; have r3 := D2.c 3 _ rfl; have r4 := D2.c 4 _ rfl; have r5 := D2.c 5 _ rfl
    have f0 := D2.f 0 _ rfl; have f1 := D2.f 1 _ rfl; have f2 := D2.f 2 _ rfl; have f3 := D2.f 3 _ rfl; have f4 := D2.f 4 _ rfl; have f5 := D2.f 5 _ rfl
    have RH := Lib.hid (D2.all6 rfl)
    clear D2
    go_wp2_with (fail)
    have RF := RH.out (.int .i64 0) (.int .i64 0) (.int .i64 0) (.string ⟨#[]⟩) (.int .i64 0) (.int .i64 0)
    have c0 := RF.c 0 _ rfl; have c1 := RF.c 1 _ rfl; have c2 := RF.c 2 _ rfl; have c3 := RF.c 3 _ rfl; have c4 := RF.c 4 _ rfl; have c5 := RF.c 5 _ rfl
    clear RF
    rw [HE.out]
    refine bodyPost_ret (v := cpv (nz, 0, k)) (by simp [results, Tryz.results30, go_sem, c0, c1, c2, c3, c4, c5]; rfl) rfl ⟨rfl, ?_⟩
    exact below_all6 (HB2.out) (Nat.le_refl _) _ _ _ _ _ _
  · have hk0 : k = 0 := by omega
    have HE := Lib.hid (HE0.out.trans (HC.out.trans ((if_neg (by omega)).trans (if_neg (fun h => h hk0)))))
    subst hk0
    clear HC HE0 HN
    go_enter Tryz.func30, Tryz.ntmps30
    go_wp2_with (fail)
    have kb := Lib.hid (box1 w (.cells #[.int .i64 0, .int .i64 0, .int .i64 0, .string ⟨#[]⟩, .int .i64 0, .int .i64 0] 59))
    have D := Lib.hid (Blk.made w 59 (ncs 0 0 0 ⟨#[]⟩ 0 0) rfl)
    change Hid (Blk (w.alloc (.cells #[.int .i64 0, .int .i64 0, .int .i64 0, .string ⟨#[]⟩, .int .i64 0, .int .i64 0] 59)) w.heap.size _) at D
    generalize w.alloc (.cells #[.int .i64 0, .int .i64 0, .int .i64 0, .string ⟨#[]⟩, .int .i64 0, .int .i64 0] 59) = v at *
    refine (HV.out _).mono ?_
    rintro e w1 ⟨rfl, hb⟩
    have D1 := D.out.next hb
    have HB1 := Lib.hid (Below.next kb.out hb)
    clear hb D kb HV
    unfold prv vv
    have hb := box1 w1 (.cells #[.int .i64 vv'.k, .int .i64 vv'.n, .string (tx vv'.s), .int .i64 vv'.x, .int .i64 vv'.y] 26)
    have D2 := D1.next hb
    have HB2 := Lib.hid (Below.next HB1.out hb)
    clear hb D1
    have r0 := D2.c 0 _ rfl; have r1 := D2.c 1 _ rfl; have r2 := D2.c 2 _ rfl; have r3 := D2.c 3 _ rfl; have r4 := D2.c 4 _ rfl; have r5 := D2.c 5 _ rfl
    have f0 := D2.f 0 _ rfl; have f1 := D2.f 1 _ rfl; have f2 := D2.f 2 _ rfl; have f3 := D2.f 3 _ rfl; have f4 := D2.f 4 _ rfl; have f5 := D2.f 5 _ rfl
    have RH := Lib.hid (D2.all6 rfl)
    clear D2
    go_wp2_with (fail)
    have RF := RH.out (.int .i64 0) (.int .i64 vv'.k) (.int .i64 vv'.n) (.string (tx vv'.s)) (.int .i64 vv'.x) (.int .i64 vv'.y)
    have c0 := RF.c 0 _ rfl; have c1 := RF.c 1 _ rfl; have c2 := RF.c 2 _ rfl; have c3 := RF.c 3 _ rfl; have c4 := RF.c 4 _ rfl; have c5 := RF.c 5 _ rfl
    clear RF
    rw [HE.out]
    refine bodyPost_ret (v := cpv (⟨0, vv'⟩, z, 0)) (by simp [results, Tryz.results30, go_sem, c0, c1, c2, c3, c4, c5]; rfl) rfl ⟨rfl, ?_⟩
    exact below_all6 (HB2.out) (Nat.le_refl _) _ _ _ _ _ _
theorem part_any (s : ByteArray) (b wi : Nat) (hs : s.size ≤ 281474976710656) (w : World) (hk : KN w) : Calls Tryz.prog 30 #[.string s, .int .i64 (b : Int), .int .i64 (wi : Int)] w (Gives (cpv (cp s.data.toList b wi)) w) := by
  by_cases hz : s.size = 0
  · exact part_end s b wi w hz
  by_cases hb : b = 400
  · exact part_many s b wi w hz hb
  by_cases hw : 24 < wi
  · exact part_nest s b wi w hz hb hw
  by_cases h0 : wi = 0
  · by_cases h40 : s.data.toList.head? = some 40
    · exact part_kind0 s b wi w hz hb h0 h40 hs hk
    · exact part_value0 s b wi w hz hb h0 h40 hs hk
  · by_cases h41 : s.data.toList.head? = some 41
    · exact part_arity s b wi w hz hb hw (by omega) h41
    by_cases h40 : s.data.toList.head? = some 40
    · exact part_kind1 s b wi w hz hb hw (by omega) h41 h40 hs hk
    · exact part_value1 s b wi w hz hb hw (by omega) h41 h40 hs hk
end Go.Proofs.YtcdjincaedpodaaGreatDoor.Ex
/-
  Lists of nodes in memory; rows of the call's own.
-/
namespace Go.Proofs.YtcdjincaedpodaaGreatDoor.Ov
open Go.ChangeShapes Go.WideShapes Go.ChangeAt Go.RowKit
section
variable {w w' : World} {base base' size size' n n' : Nat} {e e' : TypeId} {v v' : Value} {xs xs' : List Value}
/-- Rows of unlike types lie in unlike blocks. -/
theorem own_ne (h : w.ownsRow base e size v n xs) (h' : w.ownsRow base' e' size' v' n' xs') (hne : e ≠ e') : v.ownBlock = none ∨ v.ownBlock ≠ v'.ownBlock := by
  rcases h.2 with ⟨rfl, _⟩ | ⟨g, cap, cur, rfl, _, hg, _⟩
  · exact .inl rfl
  · refine .inr fun heq => ?_
    rcases h'.2 with ⟨rfl, _⟩ | ⟨g', cap', cur', rfl, _, hg', _⟩
    · cases heq
    · have e1 : g = g' := Option.some.inj heq
      subst e1
      rw [hg] at hg'
      injection hg' with hg'
      injection hg' with _ h3
      exact hne h3
theorem own_old (h : w.ownsRow base e size v n xs) (k : Below w.heap.size w w') : w'.ownsRow base e size v n xs :=
  h.kept (row := none) ⟨k.os, k.tape, k.output, k.size, fun i hi _ => k.block i hi⟩ (by cases v.ownBlock <;> simp)
theorem own_take {g cap k : Nat} (h : w.ownsRow base e 1 (.slice (some ⟨g, 0, none⟩) n cap) n xs) (hk : k ≤ n) : w.ownsRow base e 1 (.slice (some ⟨g, 0, none⟩) k cap) k (xs.take k) := by
  rcases h.2 with ⟨h', _⟩ | ⟨g', cap', cur, h', hb, hg, hnc, hcm, hcs, htake⟩
  · simp at h'
  · simp only [Value.slice.injEq, Option.some.injEq, Addr.mk.injEq, and_true, true_and] at h'
    obtain ⟨rfl, rfl⟩ := h'
    refine ⟨by rw [List.length_take, h.1]; omega, .inr ⟨g, cap, cur, rfl, hb, hg, by omega, hcm, hcs, ?_⟩⟩
    rw [← htake, List.take_take]
    congr 1; omega
/-- A cell of another block than the row that grows. -/
theorem cell_grown {row : Option Nat} (hg : w.grownBy w' row) {p : Addr} {u : Value} (hc : w.cell? p = some u) (hne : some p.block ≠ row) : w'.cell? p = some u := by
  rw [World.cell?_of_block (hg.block p.block (block_lt_of_cell hc) hne)]; exact hc
end
end Go.Proofs.YtcdjincaedpodaaGreatDoor.Ov
namespace Go.Proofs.YtcdjincaedpodaaGreatDoor.Ex
open Go.ChangeShapes Go.WideShapes Go.ChangeAt Go.RowKit Go.Proofs.YtcdjincaedpodaaGreatDoor.Ov Go.Proofs.YtcdjincaedpodaaGreatDoor.Va

/-- The cells of nodes, side by side. -/
def cells (l : List No) : List Value := l.flatMap ncl
def nd (l : List No) (i : Nat) : No := (l[i]?).getD nz
theorem cells_len (l : List No) : (cells l).length = l.length * 6 := by
  induction l with
  | nil => rfl
  | cons n t ih =>
    show (ncl n ++ cells t).length = _
    rw [List.length_append, ih, List.length_cons]
    show 6 + _ = _
    omega
theorem cells_snoc (l : List No) (n : No) : cells (l ++ [n]) = cells l ++ ncl n := by
  unfold cells
  rw [List.flatMap_append]; simp
theorem nd_cons (n : No) (t : List No) (i : Nat) : nd (n :: t) (i + 1) = nd t i := rfl
theorem nd_drop (l : List No) (k i : Nat) : nd (l.drop k) i = nd l (k + i) := by unfold nd; rw [List.getElem?_drop]
theorem nd_at {l : List No} {i : Nat} (h : i < l.length) : nd l i = l[i] := by unfold nd; rw [List.getElem?_eq_getElem h]; rfl
theorem cells_at (l : List No) (i j : Nat) (hi : i < l.length) (hj : j < 6) : (cells l)[i * 6 + j]? = (ncl (nd l i))[j]? := by
  induction l generalizing i with
  | nil => simp at hi
  | cons n t ih =>
    show (ncl n ++ cells t)[i * 6 + j]? = _
    cases i with
    | zero =>
      rw [Nat.zero_mul, Nat.zero_add, List.getElem?_append_left (by show j < 6; exact hj)]; rfl
    | succ i =>
      rw [List.getElem?_append_right (by show 6 ≤ _; omega), nd_cons]
      show (cells t)[(i + 1) * 6 + j - 6]? = _
      rw [show (i + 1) * 6 + j - 6 = i * 6 + j by omega]
      exact ih i (by simpa using hi)
theorem drop_nd {l : List No} {k : Nat} (h : k < l.length) : l.drop k = nd l k :: l.drop (k + 1) := by rw [nd_at h]; exact List.drop_eq_getElem_cons h
/-- The nodes l lie behind a pointer. -/
def Nds (w : World) (p : Option Addr) (l : List No) : Prop :=
  0 < l.length → ∃ B O, p = some ⟨B, O, none⟩ ∧ ∀ i j v, i < l.length → (ncl (nd l i))[j]? = some v → w.cell? ⟨B, O + i * 6 + j, none⟩ = some v
section
variable {w w' : World} {p : Option Addr} {l : List No}
theorem Nds.next (h : Nds w p l) (k : Below w.heap.size w w') : Nds w' p l := fun hn => by
  obtain ⟨B, O, e, hc⟩ := h hn
  exact ⟨B, O, e, fun i j v hi hv => (k.cell (p := ⟨B, O + i * 6 + j, none⟩) (block_lt_of_cell (hc i j v hi hv))).trans (hc i j v hi hv)⟩
theorem Nds.below {lo : Nat} (h : Nds w p l) (hlo : ∀ a, p = some a → a.block < lo) (k : Below lo w w') : Nds w' p l := fun hn => by
  obtain ⟨B, O, e, hc⟩ := h hn
  exact ⟨B, O, e, fun i j v hi hv => (k.cell (p := ⟨B, O + i * 6 + j, none⟩) (show B < lo from hlo _ e)).trans (hc i j v hi hv)⟩
theorem Nds.drewN (h : Nds w p l) (m : Nat) : Nds (w.drewN m) p l := h
theorem Nds.cell {B O : Nat} (h : Nds w (some ⟨B, O, none⟩) l) {i : Nat} (hi : i < l.length) (j : Nat) (v : Value) (hv : (ncl (nd l i))[j]? = some v) : w.cell? ⟨B, O + i * 6 + j, none⟩ = some v := by
  obtain ⟨B', O', e, hc⟩ := h (by omega)
  simp only [Option.some.injEq, Addr.mk.injEq, and_true] at e
  obtain ⟨rfl, rfl⟩ := e
  exact hc i j v hi hv
theorem Nds.lt {B O : Nat} (h : Nds w (some ⟨B, O, none⟩) l) (hl : 0 < l.length) : B < w.heap.size := block_lt_of_cell (h.cell hl 0 _ rfl)
theorem Nds.shape (h : Nds w p l) (hl : 0 < l.length) : ∃ B O, p = some ⟨B, O, none⟩ := by
  obtain ⟨B, O, e, _⟩ := h hl
  exact ⟨B, O, e⟩
theorem Nds.drop {B O : Nat} (h : Nds w (some ⟨B, O, none⟩) l) (k : Nat) : Nds w (some ⟨B, O + k * 6, none⟩) (l.drop k) := fun hn => by
  rw [List.length_drop] at hn
  refine ⟨B, O + k * 6, rfl, fun i j v hi hv => ?_⟩
  rw [List.length_drop] at hi
  rw [nd_drop] at hv
  have := h.cell (i := k + i) (by omega) j v hv
  rw [show O + k * 6 + i * 6 + j = O + (k + i) * 6 + j by omega]; exact this
theorem Nds.take {k : Nat} (h : Nds w p l) : Nds w p (l.take k) := fun hn => by
  rw [List.length_take] at hn
  obtain ⟨B, O, e, hc⟩ := h (by omega)
  refine ⟨B, O, e, fun i j v hi hv => hc i j v (by rw [List.length_take] at hi; omega) ?_⟩
  have : nd (l.take k) i = nd l i := by
    rw [List.length_take] at hi
    unfold nd; rw [List.getElem?_take, if_pos (by omega)]
  rw [← this]; exact hv
theorem Nds.nil (w : World) (p : Option Addr) : Nds w p [] := fun h => absurd h (Nat.lt_irrefl 0)
/-- A row of the call's own is one. -/
theorem Nds.of_own {base : Nat} {e : TypeId} {A : Option Addr} {c : Nat} (h : w.ownsRow base e 6 (.slice A l.length c) l.length (cells l)) : Nds w A l := fun hn => by
  obtain ⟨g, cap, hv, _⟩ := h.form hn
  injection hv with h1 h2 h3
  subst h1
  refine ⟨g, 0, rfl, fun i j v hi hv => ?_⟩
  have hj : j < 6 := by
    rcases Nat.lt_or_ge j 6 with h | h
    · exact h
    · rw [List.getElem?_eq_none (by show 6 ≤ j; exact h)] at hv; cases hv
  rw [Nat.zero_add, h.cellAt _ (by omega), cells_at l i j hi hj]; exact hv
end
/-- A value that owns a row is a slice. -/
theorem own_slice {w : World} {base size n : Nat} {e : TypeId} {v : Value} {xs : List Value} (h : w.ownsRow base e size v n xs) : ∃ A c, v = .slice A n c := by
  rcases h.2 with ⟨rfl, rfl⟩ | ⟨g, cap, cur, rfl, _⟩
  · exact ⟨none, 0, rfl⟩
  · exact ⟨_, _, rfl⟩
theorem own_cap {w : World} {base size n c : Nat} {e : TypeId} {A : Option Addr} {xs : List Value} (h : w.ownsRow base e size (.slice A n c) n xs) : n ≤ c ∧ c ≤ maxLen := by
  rcases h.2 with ⟨h1, rfl⟩ | ⟨g, cap, cur, h1, _, _, hn, hc, _⟩
  · injection h1 with _ _ h3; subst h3; exact ⟨Nat.le_refl _, Nat.zero_le _⟩
  · injection h1 with _ _ h3; subst h3; exact ⟨hn, hc⟩
def ints (l : List Nat) : List Value := l.map fun n : Nat => .int .i64 (n : Int)
theorem ints_top (m : Nat) (more : List Nat) : (ints (m :: more).reverse)[more.length]? = some (.int .i64 (m : Int)) := by
  unfold ints
  rw [List.reverse_cons, List.map_append, List.getElem?_append_right (by simp)]; simp
theorem ints_set (m k : Nat) (more : List Nat) : (ints (m :: more).reverse).set more.length (.int .i64 (k : Int)) = ints (k :: more).reverse := by
  unfold ints
  rw [List.reverse_cons, List.map_append, List.set_append_right _ _ (by simp), List.reverse_cons, List.map_append]; simp
theorem ints_take (m : Nat) (more : List Nat) : (ints (m :: more).reverse).take more.length = ints more.reverse := by
  unfold ints
  rw [List.reverse_cons, List.map_append, List.take_append_of_le_length (by simp), List.take_of_length_le (by simp)]
theorem ints_push (p : Nat) (st : List Nat) : ints st.reverse ++ [.int .i64 (p : Int)] = ints (p :: st).reverse := by
  unfold ints
  rw [List.reverse_cons, List.map_append]; simp
theorem ncl_one (n : No) : ∀ u ∈ ncl n, u.oneCell' = true := by
  intro u hu
  unfold ncl at hu
  simp only [List.mem_cons, List.not_mem_nil, or_false] at hu
  rcases hu with rfl | rfl | rfl | rfl | rfl | rfl <;> rfl
theorem infoN : (Tryz.prog.info? 59).map (fun i => (i.zero, i.size, i.bytes)) = some (some (nov nz), 6, 56) := by kernel_rfl
theorem infoI : (Tryz.prog.info? 3).map (fun i => (i.zero, i.size, i.bytes)) = some (some (.int .i64 0), 1, 8) := by kernel_rfl
end Go.Proofs.YtcdjincaedpodaaGreatDoor.Ex
/-
  Of any seat with values: a value among the arguments, opened, and shut.
-/
namespace Go.Proofs.YtcdjincaedpodaaGreatDoor.Va
open Go.ChangeShapes Go.WideShapes Go.ChangeAt Go.RowKit Go.Proofs.YtcdjincaedpodaaGreatDoor.Ov Go.Proofs.YtcdjincaedpodaaGreatDoor.Tp
section
variable {H : Type} {enc : TypeId × Value → H} {w : World} {base : Nat} {spare : Nat → Bool} {held : Bool}
set_option maxRecDepth 100000 in
/-- A value among the arguments, opened. -/
theorem val_of {r : Reach} {b0 : Nat} {v : Value} {d : DataW H} {p : List MemPlace} (hv : Value.okWide Tryz.prog w r b0 26 v) (h : DataW.Trod enc Tryz.prog w base spare held 26 v d p) :
    ∃ (k n : Int) (s : ByteArray) (x y : Int), v = .agg #[.int .i64 k, .int .i64 n, .string s, .int .i64 x, .int .i64 y] ∧
      d = .agg [.lit (.int .i64 k), .lit (.int .i64 n), .lit (.string s.data.toList), .agg [.lit (.int .i64 x), .lit (.int .i64 y)]] ∧ p = [] ∧
      (Lit.int .i64 k).wf = true ∧ (Lit.int .i64 n).wf = true ∧ s.size ≤ maxLen ∧ (Lit.int .i64 x).wf = true ∧ (Lit.int .i64 y).wf = true := by
  have c1 : Tryz.prog.cellsOf 3 = 1 := by kernel_rfl
  have c2 : Tryz.prog.cellsOf 9 = 1 := by kernel_rfl
  have c3 : Tryz.prog.cellsOf 24 = 2 := by kernel_rfl
  obtain ⟨cs, rfl, hsz⟩ := okWide_struct Tryz.underlying26 hv
  have hC : Tryz.prog.cellsOf 26 = 5 := by kernel_rfl
  obtain ⟨l⟩ := cs
  match l, hsz.trans hC with
  | [a0, a1, a2, a3, a4], _ =>
    obtain ⟨fuel, hf⟩ := h
    obtain ⟨y0, y1, y2, y3, m, hx, _, h0, h1, h2, h3⟩ := Joins.trod_struct4 Tryz.underlying26 hf
    simp only [Prod.mk.injEq] at hx
    simp only [c1, c2, c3, Value.cells] at h0 h1 h2 h3
    obtain ⟨k, e0, rfl, w0⟩ := DataW.trod_int Tryz.underlying3 h0
    obtain ⟨n, e1, rfl, w1⟩ := DataW.trod_int Tryz.underlying3 h1
    obtain ⟨s, e2, rfl, w2⟩ := DataW.trod_string Tryz.underlying9 h2
    obtain ⟨z0, z1, m', hz, _, g0, g1⟩ := trod_struct2 Tryz.underlying24 h3
    simp only [c1] at g0 g1
    obtain ⟨x, f0, rfl, u0⟩ := DataW.trod_int Tryz.underlying3 g0
    obtain ⟨y, f1, rfl, u1⟩ := DataW.trod_int Tryz.underlying3 g1
    have e3 : [a0] = [Value.int .i64 k] := e0
    have e4 : [a1] = [Value.int .i64 n] := e1
    have e5 : [a2] = [Value.string s] := e2
    have e6 : [a3] = [Value.int .i64 x] := f0
    have e7 : [a4] = [Value.int .i64 y] := f1
    obtain rfl : a0 = .int .i64 k := by simpa using e3
    obtain rfl : a1 = .int .i64 n := by simpa using e4
    obtain rfl : a2 = .string s := by simpa using e5
    obtain rfl : a3 = .int .i64 x := by simpa using e6
    obtain rfl : a4 = .int .i64 y := by simpa using e7
    subst hz
    exact ⟨k, n, s, x, y, rfl, hx.1, by simpa using hx.2, w0, w1, w2, u0, u1⟩
set_option maxRecDepth 100000 in
/-- And shut. -/
theorem shut_val {k n x y : Int} {s : ByteArray} (w0 : (Lit.int .i64 k).wf = true) (w1 : (Lit.int .i64 n).wf = true) (w2 : s.size ≤ maxLen) (w3 : (Lit.int .i64 x).wf = true) (w4 : (Lit.int .i64 y).wf = true) :
    DataW.Trod enc Tryz.prog w base spare held 26 (.agg #[.int .i64 k, .int .i64 n, .string s, .int .i64 x, .int .i64 y]) (.agg [.lit (.int .i64 k), .lit (.int .i64 n), .lit (.string s.data.toList), .agg [.lit (.int .i64 x), .lit (.int .i64 y)]]) [] := by
  have c1 : Tryz.prog.cellsOf 3 = 1 := by kernel_rfl
  have c2 : Tryz.prog.cellsOf 9 = 1 := by kernel_rfl
  have c3 : Tryz.prog.cellsOf 24 = 2 := by kernel_rfl
  have c4 : Tryz.prog.cellsOf 26 = 5 := by kernel_rfl
  have hs : DataW.trod enc Tryz.prog w base spare held 2 9 [.string s] = some (.lit (.string s.data.toList), []) := by simp [DataW.trod, Tryz.underlying9, w2]
  have hp := trod_struct2_mk (enc := enc) (P := Tryz.prog) (w := w) (base := base) (spare := spare) (held := held) (n := 1) (cs := [.int .i64 x, .int .i64 y]) (y0 := (.lit (.int .i64 x), [])) (y1 := (.lit (.int .i64 y), []))
    Tryz.underlying24 (by simp [c3]) (by simp only [c1]; exact trod_int_mk 0 Tryz.underlying3 w3) (by simp only [c1]; exact trod_int_mk 0 Tryz.underlying3 w4)
  have ht := Joins.trod_struct4_mk (enc := enc) (P := Tryz.prog) (w := w) (base := base) (spare := spare) (held := held) (n := 2) (cs := [.int .i64 k, .int .i64 n, .string s, .int .i64 x, .int .i64 y])
    (y0 := (.lit (.int .i64 k), [])) (y1 := (.lit (.int .i64 n), [])) (y2 := (.lit (.string s.data.toList), [])) (y3 := (.agg [.lit (.int .i64 x), .lit (.int .i64 y)], []))
    Tryz.underlying26 (by simp [c4]) (by simp only [c1]; exact trod_int_mk 1 Tryz.underlying3 w0) (by simp only [c1]; exact trod_int_mk 1 Tryz.underlying3 w1) (by simp only [c2]; exact hs)
    (by simp only [c3]; simpa using hp)
  exact ⟨_, by simpa [Value.cells] using ht⟩
end
end Go.Proofs.YtcdjincaedpodaaGreatDoor.Va
/-
  A list of nodes among a law's arguments.
-/
namespace Go.Proofs.YtcdjincaedpodaaGreatDoor.Ex
open Go.ChangeShapes Go.WideShapes Go.ChangeAt Go.RowKit Go.Proofs.YtcdjincaedpodaaGreatDoor.Ov Go.Proofs.YtcdjincaedpodaaGreatDoor.Va

instance : Inhabited No := ⟨nz⟩
section
variable {H : Type} {enc : TypeId × Value → H} {w : World} {base : Nat} {spare : Nat → Bool} {held : Bool}
set_option maxRecDepth 100000 in
theorem node_cells {fuel : Nat} {cs : List Value} {x : DataW H × List MemPlace} (h : DataW.trod enc Tryz.prog w base spare held fuel 45 cs = some x) : ∃ n : No, cs = ncl n := by
  have c1 : Tryz.prog.cellsOf 3 = 1 := by kernel_rfl
  have c2 : Tryz.prog.cellsOf 9 = 1 := by kernel_rfl
  have c3 : Tryz.prog.cellsOf 24 = 2 := by kernel_rfl
  have c4 : Tryz.prog.cellsOf 26 = 5 := by kernel_rfl
  have c5 : Tryz.prog.cellsOf 45 = 6 := by kernel_rfl
  obtain ⟨y0, y1, m, _, hl, g0, g1⟩ := trod_struct2 Tryz.underlying45 h
  rw [c5] at hl
  match cs, hl with
  | [a0, a1, a2, a3, a4, a5], _ =>
    simp only [c1, c4] at g0 g1
    obtain ⟨o, e0, _, _⟩ := DataW.trod_int Tryz.underlying3 g0
    obtain ⟨z0, z1, z2, z3, m', _, _, h0, h1, h2, h3⟩ := Joins.trod_struct4 Tryz.underlying26 g1
    simp only [c1, c2, c3] at h0 h1 h2 h3
    obtain ⟨k, e1, _, _⟩ := DataW.trod_int Tryz.underlying3 h0
    obtain ⟨n, e2, _, _⟩ := DataW.trod_int Tryz.underlying3 h1
    obtain ⟨s, e3, _, _⟩ := DataW.trod_string Tryz.underlying9 h2
    obtain ⟨x0, x1, m'', _, _, f0, f1⟩ := trod_struct2 Tryz.underlying24 h3
    simp only [c1] at f0 f1
    obtain ⟨x, e4, _, _⟩ := DataW.trod_int Tryz.underlying3 f0
    obtain ⟨y, e5, _, _⟩ := DataW.trod_int Tryz.underlying3 f1
    have q0 : [a0] = [Value.int .i64 o] := e0
    have q1 : [a1] = [Value.int .i64 k] := e1
    have q2 : [a2] = [Value.int .i64 n] := e2
    have q3 : [a3] = [Value.string s] := e3
    have q4 : [a4] = [Value.int .i64 x] := e4
    have q5 : [a5] = [Value.int .i64 y] := e5
    obtain rfl : a0 = .int .i64 o := by simpa using q0
    obtain rfl : a1 = .int .i64 k := by simpa using q1
    obtain rfl : a2 = .int .i64 n := by simpa using q2
    obtain rfl : a3 = .string s := by simpa using q3
    obtain rfl : a4 = .int .i64 x := by simpa using q4
    obtain rfl : a5 = .int .i64 y := by simpa using q5
    exact ⟨⟨o, ⟨k, n, s.data.toList, x, y⟩⟩, by unfold ncl; dsimp only; rw [tx_of]⟩
end
theorem ncl_lt {n : No} {j : Nat} {v : Value} (h : (ncl n)[j]? = some v) : j < 6 := by
  rcases Nat.lt_or_ge j 6 with h1 | h1
  · exact h1
  · rw [List.getElem?_eq_none (by show 6 ≤ j; exact h1)] at h; cases h
theorem plain_addr {w : World} {a : Addr} {v : Value} (h : w.cell? a = some v) : a = ⟨a.block, a.off, none⟩ := by
  obtain ⟨b, off, spot⟩ := a
  have hspot : spot = none := World.cell?_spot h
  subst hspot; rfl
/-- What a walk is told of such an argument. -/
def NdIn (w : World) (p : Option Addr) (n : Nat) (l : List No) : Prop := l.length = n ∧ Nds w p l ∧ n ≤ maxLen
set_option maxRecDepth 100000 in
theorem nodes_of {H : Type} {enc : TypeId × Value → H} {W : World} {p : Option Addr} {n c : Nat} {d : DataW H} {ps : List MemPlace} (h : DataW.Trod enc Tryz.prog W 0 (fun _ => true) true 22 (.slice p n c) d ps) : ∃ l : List No, NdIn W p n l := by
  have c5 : Tryz.prog.cellsOf 45 = 6 := by kernel_rfl
  obtain ⟨fuel, hf⟩ := h
  rcases Go.Deep.open_slice Tryz.underlying22 hf with ⟨hcs, _⟩ | ⟨a, len, cap, m, f, D, Pl, hcs, _, hlc, hcm, hm, _, hall⟩
  · simp [Value.cells] at hcs
    obtain ⟨rfl, rfl, rfl⟩ := hcs
    exact ⟨[], rfl, Nds.nil _ _, Nat.zero_le _⟩
  · simp [Value.cells] at hcs
    obtain ⟨rfl, rfl, rfl⟩ := hcs
    simp at hm
    subst hm
    have hz : ∀ i, i < m → ∃ q : No, ∀ j v, (ncl q)[j]? = some v → W.cell? ((a.add (i * 6)).add j) = some v := fun i hi => by
      obtain ⟨cs', hc, ht⟩ := hall i hi
      rw [c5] at hc
      obtain ⟨q, rfl⟩ := node_cells ht
      obtain ⟨_, _, hat⟩ := World.cells?_some hc
      exact ⟨q, fun j v hv => by rw [hat j (ncl_lt hv)]; exact hv⟩
    obtain ⟨q, hq⟩ := Go.Deep.choose_lt hz
    have hget : ∀ i, i < n → nd ((List.range n).map q) i = q i := fun i hi => by unfold nd; simp [hi]
    refine ⟨(List.range n).map q, by simp, fun hn => ?_, Nat.le_trans hlc hcm⟩
    have hn' : 0 < n := by simpa using hn
    have h0 := hq 0 (by omega) 0 _ rfl
    have ha := plain_addr (show W.cell? a = _ by simpa [Addr.add] using h0)
    refine ⟨a.block, a.off, congrArg some ha, fun i j v hi hv => ?_⟩
    have hi' : i < n := by simpa using hi
    rw [hget i hi'] at hv
    have := hq i (by omega) j v hv
    rw [ha, Go.WideShapes.add_plain, Go.WideShapes.add_plain] at this
    exact this
end Go.Proofs.YtcdjincaedpodaaGreatDoor.Ex
/-
  What expressions come to, in plain mathematics.
-/
namespace Go.Proofs.YtcdjincaedpodaaGreatDoor.Ev
open Go.Proofs.YtcdjincaedpodaaGreatDoor.Ov Go.Proofs.YtcdjincaedpodaaGreatDoor.Tp Go.Proofs.YtcdjincaedpodaaGreatDoor.Ga Go.Proofs.YtcdjincaedpodaaGreatDoor.Va Go.Proofs.YtcdjincaedpodaaGreatDoor.Ex

/-- What stands for names, and the pairs. -/
structure St where
  key : List UInt8
  val : Va
  acc : Va
  i : Int
  it : Va
  out : List (List UInt8 × Va)
/-- What a doing answers: an error, or something, the state, the steps that are left. -/
inductive Rs (α : Type) where
  | er (x : Int)
  | ok (a : α) (S : St) (n : Nat)
abbrev M (α : Type) := St → Nat → Rs α
def tv (s : List UInt8) : Va := ⟨1, 0, s, 0, 0⟩
def pv (x y : Int) : Va := ⟨2, 0, [], x, y⟩
def tr (b : Bool) : Va := if b = true then nv 1 else nv 0
def ret {α : Type} (a : α) : M α := fun S n => .ok a S n
def fail {α : Type} (x : Int) : M α := fun _ _ => .er x
def bnd {α β : Type} (f : M α) (g : α → M β) : M β := fun S n => match f S n with | .er x => .er x | .ok a S1 n1 => g a S1 n1
def tick : M Unit := fun S n => match n with | 0 => .er 15 | n + 1 => .ok () S n
/-- What stands for a name. -/
def nmd (k : Int) : M Va := fun S n => .ok (if k = 0 then tv S.key else if k = 1 then S.val else if k = 2 then S.acc else if k = 3 then nv S.i else S.it) S n
def setI (k : Int) : M Unit := fun S n => .ok () { S with i := k } n
def withI {α : Type} (f : M α) : M α := fun S n => match f S n with | .er x => .er x | .ok a S1 n1 => .ok a { S1 with i := S.i } n1
def withIt {α : Type} (v : Va) (f : M α) : M α := fun S n => match f { S with it := v } n with | .er x => .er x | .ok a S1 n1 => .ok a { S1 with it := S.it } n1
def emitM (k : List UInt8) (v : Va) : M Va := fun S n => if 64 ≤ S.out.length then .er 22 else .ok v { S with out := S.out ++ [(k, v)] } n
def lift {α : Type} (x : Int ⊕ α) : M α := match x with | .inl e => fail e | .inr v => ret v
/-! ### What kinds do whose parts are done -/
def chk (v : Va) : Int ⊕ Va := if rt v = true then .inr v else .inl 14
/-- The quotient, rounded down. -/
def qf (a b : Int) : Int := if a.tmod b ≠ 0 ∧ ((a < 0) ≠ (b < 0)) then a.tdiv b - 1 else a.tdiv b
def nums (o a b : Int) : Int ⊕ Va :=
  if o = 2 then chk (nv (a + b)) else if o = 3 then chk (nv (a - b)) else if o = 4 then chk (nv (a * b))
  else if b = 0 then .inl 16 else if o = 5 then chk (nv (qf a b)) else .inr (nv (a - qf a b * b))
def spots (o : Int) (a b : Pt) : Int ⊕ Va :=
  if o = 2 then chk (pv (a.add b).x (a.add b).y) else if o = 3 then chk (pv (a.sub b).x (a.sub b).y) else if o = 4 then chk (pv (a.mul b).x (a.mul b).y)
  else if b = Pt.zero then .inl 16 else if o = 5 then .inr (pv (a.quo b).x (a.quo b).y) else .inr (pv (a.rest b).x (a.rest b).y)
def pt (v : Va) : Pt := ⟨v.x, v.y⟩
def rk (o : Int) (a b : Va) : Int ⊕ Va := if a.k ≠ b.k then .inl 13 else if a.k = 0 then nums o a.n b.n else if a.k = 2 then spots o (pt a) (pt b) else .inl 13
/-- The first stretch without blanks, and what is behind it. -/
def isB (c : UInt8) : Bool := c == 32
def sp (s : List UInt8) : List UInt8 := s.dropWhile isB
def st (s : List UInt8) : List UInt8 := (sp s).takeWhile fun c => !isB c
def bh (s : List UInt8) : List UInt8 := (sp s).dropWhile fun c => !isB c
def wdF : Nat → List UInt8 → List (List UInt8)
  | 0, _ => []
  | f + 1, s => if st s = [] then [] else st s :: wdF f (bh s)
def wds (s : List UInt8) : List (List UInt8) := wdF (s.length + 1) s
def numOf (s : List UInt8) : Int ⊕ Va := if (pz s).2.2 = 0 ∧ (pz s).2.1 = s.length ∧ (pz s).1.k = 0 then .inr (pz s).1 else .inl 6
/-- The kinds of which a kind's parts must be (-1: any). -/
def ask (o : Int) : List Int :=
  if o = 10 then [0] else if o = 14 then [1, 1] else if o = 15 ∨ o = 18 ∨ o = 19 then [1] else if o = 16 then [1, 0, 0] else if o = 17 then [1, 0]
  else if o = 21 then [0, 0] else if o = 22 ∨ o = 23 ∨ o = 24 ∨ o = 25 then [2] else if o = 26 then [1, -1] else if o = 7 ∨ o = 20 then [-1] else [-1, -1]
def fits : List Int → List Va → Bool
  | [], _ => true
  | _ :: _, [] => false
  | k :: ks, v :: vs => (k == -1 || v.k == k) && fits ks vs
def at0 (l : List Va) : Va := l.getD 0 vz
def at1 (l : List Va) : Va := l.getD 1 vz
def at2 (l : List Va) : Va := l.getD 2 vz
def pu (o : Int) (a b c : Va) : Int ⊕ Va :=
  if o = 2 ∨ o = 3 ∨ o = 4 ∨ o = 5 ∨ o = 6 then rk o a b
  else if o = 7 then (if a.k = 0 then .inr (nv (-a.n)) else if a.k = 2 then .inr (pv (-a.x) (-a.y)) else .inl 13)
  else if o = 8 then (if a.k ≠ b.k then .inl 13 else .inr (tr (decide (ord a b < 0))))
  else if o = 9 then .inr (tr (decide (a = b)))
  else if o = 10 then .inr (tr (decide (a.n = 0)))
  else if o = 12 then (if a.k ≠ b.k then .inl 13 else .inr (if 0 < ord a b then a else b))
  else if o = 13 then (if a.k ≠ b.k then .inl 13 else .inr (if 0 < ord a b then b else a))
  else if o = 14 then (if 4096 < a.s.length + b.s.length then .inl 3 else .inr (tv (a.s ++ b.s)))
  else if o = 15 then .inr (nv a.s.length)
  else if o = 16 then (if b.n < 0 ∨ c.n < b.n ∨ (a.s.length : Int) < c.n then .inl 14 else .inr (tv ((a.s.take c.n.toNat).drop b.n.toNat)))
  else if o = 17 then (if b.n < 0 then .inl 14 else match (wds a.s)[b.n.toNat]? with | some x => .inr (tv x) | none => .inl 14)
  else if o = 18 then .inr (nv (wds a.s).length)
  else if o = 19 then numOf a.s
  else if o = 20 then (if a.k = 1 then .inr a else .inr (tv (wr a)))
  else if o = 21 then chk (pv a.n b.n)
  else if o = 22 then .inr (nv a.x)
  else if o = 23 then .inr (nv a.y)
  else if o = 24 then .inr (nv (a.x * a.x + a.y * a.y))
  else if o = 25 then .inr (pv a.x (-a.y))
  else .inr b
/-- A kind whose parts are done. -/
def ap (o : Int) (l : List Va) : M Va :=
  if fits (ask o) l = false then fail 13
  else if o = 26 then (if 64 < (at0 l).s.length then fail 3 else emitM (at0 l).s (at1 l))
  else lift (pu o (at0 l) (at1 l) (at2 l))
/-- What is behind an expression. -/
def nx (r : List No) : List No := (ex 25 r).getD []
/-- So many expressions, one behind the other. -/
def va (f : List No → M Va) : Nat → List No → List Va → M (List Va)
  | 0, _, acc => ret acc
  | k + 1, r, acc => bnd (f r) fun v => va f k (nx r) (acc ++ [v])
def lp (g : M Va) : Nat → Int → Va → M Va
  | 0, _, v => ret v
  | t + 1, k, _ => bnd (setI k) fun _ => bnd g fun v => lp g t (k + 1) v
/-- A node, the last step done. -/
def body (f : List No → M Va) (n : No) (r : List No) : M Va :=
  if n.o = 0 then ret n.v
  else if n.o = 1 then nmd n.v.n
  else if n.o = 11 then bnd (f r) fun a => if a.k ≠ 0 then fail 13 else if a.n = 0 then f (nx (nx r)) else f (nx r)
  else if n.o = 28 then bnd (f r) fun a => if a.k ≠ 0 then fail 13 else if a.n < 0 then fail 14 else withI (lp (f (nx r)) a.n.toNat 0 vz)
  else if n.o = 29 then bnd (f r) fun a => withIt a (f (nx r))
  else bnd (va f (pa n.o) r []) fun l => ap n.o l
/-- What the expression comes to that a list begins with. -/
def ev : Nat → List No → M Va
  | 0, _ => fail 15
  | _ + 1, [] => fail 15
  | d + 1, n :: r => bnd tick fun _ => body (ev d) n r
theorem ev_cons (d : Nat) (n : No) (r : List No) : ev (d + 1) (n :: r) = bnd tick fun _ => body (ev d) n r := rfl
theorem va_succ (f : List No → M Va) (k : Nat) (r : List No) (acc : List Va) : va f (k + 1) r acc = bnd (f r) fun v => va f k (nx r) (acc ++ [v]) := rfl
theorem lp_succ (g : M Va) (t : Nat) (k : Int) (v : Va) : lp g (t + 1) k v = bnd (setI k) fun _ => bnd g fun v => lp g t (k + 1) v := rfl
theorem nx_of {d : Nat} {r r' : List No} (h : ex d r = some r') (hd : d ≤ 25) : nx r = r' := by unfold nx; rw [ex_more h hd]; rfl
/-! ### A step at a time -/
theorem bnd_assoc {α β γ : Type} (f : M α) (g : α → M β) (h : β → M γ) : bnd (bnd f g) h = bnd f fun a => bnd (g a) h := by
  funext S n
  unfold bnd
  cases f S n <;> rfl
theorem bnd_ret {α β : Type} (a : α) (g : α → M β) : bnd (ret a) g = g a := rfl
theorem bnd_er {α β : Type} {f : M α} {g : α → M β} {S : St} {n : Nat} {x : Int} (h : f S n = .er x) : bnd f g S n = .er x := by unfold bnd; rw [h]
theorem bnd_ok {α β : Type} {f : M α} {g : α → M β} {S S1 : St} {n n1 : Nat} {a : α} (h : f S n = .ok a S1 n1) : bnd f g S n = g a S1 n1 := by unfold bnd; rw [h]
end Go.Proofs.YtcdjincaedpodaaGreatDoor.Ev
/-
  What is right stays right while an expression is done.
-/
namespace Go.Proofs.YtcdjincaedpodaaGreatDoor.Ev
open Go.Proofs.YtcdjincaedpodaaGreatDoor.Ov Go.Proofs.YtcdjincaedpodaaGreatDoor.Tp Go.Proofs.YtcdjincaedpodaaGreatDoor.Ga Go.Proofs.YtcdjincaedpodaaGreatDoor.Va Go.Proofs.YtcdjincaedpodaaGreatDoor.Ex

/-- The state is right: what a doing may begin with. -/
structure Gd (S : St) (n : Nat) : Prop where
  key : S.key.length ≤ 4096
  val : rt S.val = true
  acc : rt S.acc = true
  i : -9007199254740992 ≤ S.i ∧ S.i ≤ 9007199254740992
  it : rt S.it = true
  out : S.out.length ≤ 64
  fuel : n ≤ 100000
theorem rt_all {v : Va} (h : rt v = true) : (-9007199254740992 ≤ v.n ∧ v.n ≤ 9007199254740992) ∧ v.s.length ≤ 4096 ∧ rb (pt v) = true ∧ (v.k = 0 ∨ v.k = 1 ∨ v.k = 2) := by
  rcases rt_yes h with ⟨h0, h1, h2, h3, h4, h5⟩ | ⟨h0, h1, h2, h3, h4⟩ | ⟨h0, h1, h2, h3⟩
  · exact ⟨⟨h1, h2⟩, by rw [h3]; simp, by unfold pt; rw [h4, h5]; rfl, .inl h0⟩
  · exact ⟨by omega, h2, by unfold pt; rw [h3, h4]; rfl, .inr (.inl h0)⟩
  · exact ⟨by omega, by rw [h2]; simp, h3, .inr (.inr h0)⟩
theorem rt_nv {n : Int} (h : -9007199254740992 ≤ n ∧ n ≤ 9007199254740992) : rt (nv n) = true := decide_eq_true (.inl ⟨rfl, h.1, h.2, rfl, rfl, rfl⟩)
theorem rt_tv {s : List UInt8} (h : s.length ≤ 4096) : rt (tv s) = true := decide_eq_true (.inr (.inl ⟨rfl, rfl, h, rfl, rfl⟩))
theorem rt_pv {x y : Int} (h : rb ⟨x, y⟩ = true) : rt (pv x y) = true := decide_eq_true (.inr (.inr ⟨rfl, rfl, rfl, h⟩))
theorem rt_tr (b : Bool) : rt (tr b) = true := by cases b <;> rfl
theorem rt_vz : rt vz = true := rfl
theorem chk_right {v u : Va} (h : chk v = .inr u) : rt u = true := by
  unfold chk at h
  split at h
  · rename_i hv; injection h with h; rw [← h]; exact hv
  · cases h
/-- What a quotient that is rounded down leaves. -/
theorem qf_rest {a b : Int} (hb : b ≠ 0) : (0 < b → 0 ≤ a - qf a b * b ∧ a - qf a b * b < b) ∧ (b < 0 → b < a - qf a b * b ∧ a - qf a b * b ≤ 0) := by
  have h1 := Int.mul_tdiv_add_tmod a b
  rw [Int.mul_comm] at h1
  have h2 : (0 ≤ a → 0 ≤ a.tmod b) ∧ (a ≤ 0 → a.tmod b ≤ 0) := ⟨fun h => Int.tmod_nonneg b h, fun h => by
    have := Int.tmod_nonneg b (show 0 ≤ -a by omega)
    rw [Int.neg_tmod] at this; omega⟩
  have h3 : (0 < b → -b < a.tmod b ∧ a.tmod b < b) ∧ (b < 0 → b < a.tmod b ∧ a.tmod b < -b) := by
    have g := Int.natAbs_tmod a b
    have g2 := Nat.mod_lt a.natAbs (show 0 < b.natAbs by omega)
    rw [← g] at g2
    omega
  unfold qf
  split
  · rename_i h
    obtain ⟨h4, h5⟩ := h
    rw [Int.sub_mul, Int.one_mul]
    generalize a.tdiv b * b = p at *
    generalize a.tmod b = r at *
    have h6 : (a < 0 ∧ ¬ b < 0) ∨ (¬ a < 0 ∧ b < 0) := by
      by_cases x : a < 0 <;> by_cases y : b < 0
      · exact absurd (by simp [x, y]) h5
      · exact .inl ⟨x, y⟩
      · exact .inr ⟨x, y⟩
      · exact absurd (by simp [x, y]) h5
    omega
  · rename_i h
    generalize a.tdiv b * b = p at *
    generalize a.tmod b = r at *
    by_cases h4 : r = 0
    · omega
    · have h6 : (a < 0 ∧ b < 0) ∨ (¬ a < 0 ∧ ¬ b < 0) := by
        by_cases x : a < 0 <;> by_cases y : b < 0
        · exact .inl ⟨x, y⟩
        · exact absurd ⟨h4, by simp [x, y]⟩ h
        · exact absurd ⟨h4, by simp [x, y]⟩ h
        · exact .inr ⟨x, y⟩
      omega
theorem nums_right {o : Int} {a b : Int} {v : Va} (_ha : -9007199254740992 ≤ a ∧ a ≤ 9007199254740992) (hb : -9007199254740992 ≤ b ∧ b ≤ 9007199254740992) (h : nums o a b = .inr v) : rt v = true := by
  unfold nums at h
  split at h
  · exact chk_right h
  split at h
  · exact chk_right h
  split at h
  · exact chk_right h
  split at h
  · cases h
  rename_i h0
  split at h
  · exact chk_right h
  · injection h with h
    rw [← h]
    have := qf_rest (a := a) h0
    exact rt_nv (by omega)
theorem spots_right {o : Int} {a b : Pt} {v : Va} (ha : rb a = true) (hb : rb b = true) (h : spots o a b = .inr v) : rt v = true := by
  unfold spots at h
  split at h
  · exact chk_right h
  split at h
  · exact chk_right h
  split at h
  · exact chk_right h
  split at h
  · cases h
  rename_i h0
  split at h
  · injection h with h; rw [← h]; exact rt_pv (Pt.quo_right ha h0)
  · injection h with h; rw [← h]; exact rt_pv (Pt.rest_right hb h0)
theorem rk_right {o : Int} {a b v : Va} (ha : rt a = true) (hb : rt b = true) (h : rk o a b = .inr v) : rt v = true := by
  unfold rk at h
  split at h
  · cases h
  split at h
  · exact nums_right (rt_all ha).1 (rt_all hb).1 h
  split at h
  · exact spots_right (rt_all ha).2.2.1 (rt_all hb).2.2.1 h
  · cases h
theorem sp_le (s : List UInt8) : (sp s).length ≤ s.length := (List.dropWhile_sublist _).length_le
theorem bh_le (s : List UInt8) : (st s).length + (bh s).length ≤ s.length := by
  have h := sp_le s
  have : (sp s).length = (st s).length + (bh s).length := by
    unfold st bh
    rw [← List.length_append, List.takeWhile_append_dropWhile]
  omega
theorem wdF_le (f : Nat) : ∀ s : List UInt8, (wdF f s).length ≤ s.length ∧ ∀ x ∈ wdF f s, x.length ≤ s.length := by
  induction f with
  | zero => intro s; exact ⟨Nat.zero_le _, fun x h => by cases h⟩
  | succ f ih =>
    intro s
    unfold wdF
    split
    · exact ⟨Nat.zero_le _, fun x h => by cases h⟩
    · rename_i h0
      have h1 := bh_le s
      have h2 : 0 < (st s).length := List.length_pos_iff.2 h0
      have h3 := ih (bh s)
      refine ⟨by rw [List.length_cons]; omega, fun x hx => ?_⟩
      rcases List.mem_cons.1 hx with rfl | hx
      · omega
      · have := h3.2 x hx; omega
theorem wr_short {v : Va} (h : rt v = true) (hk : v.k ≠ 1) : (wr v).length ≤ 4096 := by
  have h1 := rt_all h
  have h2 := rb_yes h1.2.2.1
  unfold pt at h2
  dsimp only at h2
  unfold wr
  rw [if_neg hk]
  split
  · have := Lib.itoa_length_le v.x (by omega) (by omega)
    have := Lib.itoa_length_le v.y (by omega) (by omega)
    simp; omega
  · have := Lib.itoa_length_le v.n (by omega) (by omega)
    omega
theorem numOf_right {s : List UInt8} {v : Va} (h : numOf s = .inr v) : rt v = true := by
  unfold numOf at h
  split at h
  · rename_i hc
    injection h with h
    rw [← h]
    exact (pz_ok (l := s) (v := (pz s).1) (z := (pz s).2.1) (by
      have := hc.1
      exact Prod.ext rfl (Prod.ext rfl this))).1
  · cases h
theorem ite_or {α : Type} {c : Prop} [Decidable c] {x y z : α} (h : (if c then x else y) = z) : (c ∧ x = z) ∨ (¬ c ∧ y = z) := by
  split at h
  · exact .inl ⟨‹_›, h⟩
  · exact .inr ⟨‹_›, h⟩
theorem pu_right {o : Int} {a b c v : Va} (ha : rt a = true) (hb : rt b = true) (h : pu o a b c = .inr v) : rt v = true := by
  have ga := rt_all ha
  have gr := rb_yes ga.2.2.1
  unfold pt at gr
  dsimp only at gr
  unfold pu at h
  rcases ite_or h with ⟨_, h⟩ | ⟨_, h⟩
  · exact rk_right ha hb h
  rcases ite_or h with ⟨_, h⟩ | ⟨_, h⟩
  · split at h
    · injection h with h; rw [← h]; exact rt_nv (by omega)
    split at h
    · injection h with h; rw [← h]; exact rt_pv (rb_of (by dsimp only; omega))
    · cases h
  rcases ite_or h with ⟨_, h⟩ | ⟨_, h⟩
  · split at h
    · cases h
    · injection h with h; rw [← h]; exact rt_tr _
  rcases ite_or h with ⟨_, h⟩ | ⟨_, h⟩
  · injection h with h; rw [← h]; exact rt_tr _
  rcases ite_or h with ⟨_, h⟩ | ⟨_, h⟩
  · injection h with h; rw [← h]; exact rt_tr _
  rcases ite_or h with ⟨_, h⟩ | ⟨_, h⟩
  · split at h
    · cases h
    · injection h with h; rw [← h]; split <;> assumption
  rcases ite_or h with ⟨_, h⟩ | ⟨_, h⟩
  · split at h
    · cases h
    · injection h with h; rw [← h]; split <;> assumption
  rcases ite_or h with ⟨_, h⟩ | ⟨_, h⟩
  · split at h
    · cases h
    · injection h with h; rw [← h]; exact rt_tv (by rw [List.length_append]; omega)
  rcases ite_or h with ⟨_, h⟩ | ⟨_, h⟩
  · injection h with h; rw [← h]; exact rt_nv (by omega)
  rcases ite_or h with ⟨_, h⟩ | ⟨_, h⟩
  · split at h
    · cases h
    · injection h with h; rw [← h]; exact rt_tv (by rw [List.length_drop, List.length_take]; omega)
  rcases ite_or h with ⟨_, h⟩ | ⟨_, h⟩
  · split at h
    · cases h
    split at h
    · rename_i x hx
      injection h with h; rw [← h]
      have := (wdF_le (a.s.length + 1) a.s).2 x (List.mem_of_getElem? hx)
      exact rt_tv (by omega)
    · cases h
  rcases ite_or h with ⟨_, h⟩ | ⟨_, h⟩
  · injection h with h; rw [← h]
    have := (wdF_le (a.s.length + 1) a.s).1
    exact rt_nv (by unfold wds; omega)
  rcases ite_or h with ⟨_, h⟩ | ⟨_, h⟩
  · exact numOf_right h
  rcases ite_or h with ⟨_, h⟩ | ⟨_, h⟩
  · split at h
    · injection h with h; rw [← h]; exact ha
    · injection h with h; rw [← h]; exact rt_tv (wr_short ha ‹_›)
  rcases ite_or h with ⟨_, h⟩ | ⟨_, h⟩
  · exact chk_right h
  rcases ite_or h with ⟨_, h⟩ | ⟨_, h⟩
  · injection h with h; rw [← h]; exact rt_nv (by omega)
  rcases ite_or h with ⟨_, h⟩ | ⟨_, h⟩
  · injection h with h; rw [← h]; exact rt_nv (by omega)
  rcases ite_or h with ⟨_, h⟩ | ⟨_, h⟩
  · injection h with h; rw [← h]
    have h1 := le_sq (a := a.x) (b := 16777216) gr.1.1 gr.1.2
    have h2 := le_sq (a := a.y) (b := 16777216) gr.2.1 gr.2.2
    have h3 := sq_nonneg a.x
    have h4 := sq_nonneg a.y
    exact rt_nv (by omega)
  rcases ite_or h with ⟨_, h⟩ | ⟨_, h⟩
  · injection h with h; rw [← h]; exact rt_pv (rb_of (by dsimp only; omega))
  · injection h with h; rw [← h]; exact hb
/-- A doing keeps what is right. -/
def GdM {α : Type} (f : M α) (P : α → Prop) : Prop := ∀ S n a S1 n1, Gd S n → f S n = .ok a S1 n1 → P a ∧ Gd S1 n1
theorem GdM.ret {α : Type} {a : α} {P : α → Prop} (h : P a) : GdM (ret a) P := by
  intro S n b S1 n1 hg e
  injection e with e1 e2 e3
  subst e1; subst e2; subst e3
  exact ⟨h, hg⟩
theorem GdM.fail {α : Type} {x : Int} {P : α → Prop} : GdM (fail x) P := by
  intro S n b S1 n1 hg e
  cases e
theorem GdM.bnd {α β : Type} {f : M α} {g : α → M β} {P : α → Prop} {Q : β → Prop} (hf : GdM f P) (hg : ∀ a, P a → GdM (g a) Q) : GdM (bnd f g) Q := by
  intro S n b S1 n1 h e
  unfold Ev.bnd at e
  cases hc : f S n with
  | er x => rw [hc] at e; cases e
  | ok a S2 n2 =>
    rw [hc] at e
    obtain ⟨h1, h2⟩ := hf S n a S2 n2 h hc
    exact hg a h1 S2 n2 b S1 n1 h2 e
theorem GdM.ite {α : Type} {c : Prop} [Decidable c] {f g : M α} {P : α → Prop} (hf : c → GdM f P) (hg : ¬ c → GdM g P) : GdM (if c then f else g) P := by
  split
  · exact hf ‹_›
  · exact hg ‹_›
theorem GdM.lift {x : Int ⊕ Va} {P : Va → Prop} (h : ∀ v, x = .inr v → P v) : GdM (lift x) P := by
  cases x with
  | inl e => exact GdM.fail
  | inr v => exact GdM.ret (h v rfl)
def AllR (l : List Va) : Prop := ∀ v ∈ l, rt v = true
theorem AllR.at {l : List Va} (h : AllR l) (j : Nat) : rt (l.getD j vz) = true := by
  rw [List.getD_eq_getElem?_getD]
  cases hc : l[j]? with
  | none => exact rt_vz
  | some v => exact h v (List.mem_of_getElem? hc)
theorem AllR.snoc {l : List Va} {v : Va} (h : AllR l) (hv : rt v = true) : AllR (l ++ [v]) := by
  intro u hu
  rcases List.mem_append.1 hu with hu | hu
  · exact h u hu
  · rw [List.mem_singleton.1 hu]; exact hv
theorem emit_good {k : List UInt8} {v : Va} (h : rt v = true) : GdM (emitM k v) (fun a => rt a = true) := by
  intro S n b S1 n1 hg e
  unfold emitM at e
  split at e
  · cases e
  · injection e with e1 e2 e3
    subst e1; subst e2; subst e3
    exact ⟨h, hg.key, hg.val, hg.acc, hg.i, hg.it, by rw [List.length_append, List.length_singleton]; omega, hg.fuel⟩
theorem ap_good (o : Int) {l : List Va} (h : AllR l) : GdM (ap o l) (fun a => rt a = true) := by
  unfold ap
  refine GdM.ite (fun _ => GdM.fail) fun _ => GdM.ite (fun _ => GdM.ite (fun _ => GdM.fail) fun _ => emit_good (h.at 1)) fun _ => GdM.lift fun v hv => pu_right (h.at 0) (h.at 1) hv
theorem tick_good : GdM tick (fun _ => True) := by
  intro S n b S1 n1 hg e
  cases n with
  | zero => cases e
  | succ n =>
    injection e with e1 e2 e3
    subst e2; subst e3
    exact ⟨trivial, hg.key, hg.val, hg.acc, hg.i, hg.it, hg.out, by have := hg.fuel; omega⟩
theorem nmd_good (k : Int) : GdM (nmd k) (fun a => rt a = true) := by
  intro S n b S1 n1 hg e
  injection e with e1 e2 e3
  subst e1; subst e2; subst e3
  refine ⟨?_, hg⟩
  split
  · exact rt_tv hg.key
  split
  · exact hg.val
  split
  · exact hg.acc
  split
  · exact rt_nv hg.i
  · exact hg.it
theorem setI_good {k : Int} (h : -9007199254740992 ≤ k ∧ k ≤ 9007199254740992) : GdM (setI k) (fun _ => True) := by
  intro S n b S1 n1 hg e
  injection e with e1 e2 e3
  subst e2; subst e3
  exact ⟨trivial, hg.key, hg.val, hg.acc, h, hg.it, hg.out, hg.fuel⟩
theorem withI_good {f : M Va} {P : Va → Prop} (h : GdM f P) : GdM (withI f) P := by
  intro S n b S1 n1 hg e
  unfold withI at e
  cases hc : f S n with
  | er x => rw [hc] at e; cases e
  | ok a S2 n2 =>
    rw [hc] at e
    injection e with e1 e2 e3
    subst e1; subst e2; subst e3
    obtain ⟨h1, h2⟩ := h S n a S2 n2 hg hc
    exact ⟨h1, h2.key, h2.val, h2.acc, hg.i, h2.it, h2.out, h2.fuel⟩
theorem withIt_good {v : Va} {f : M Va} {P : Va → Prop} (hv : rt v = true) (h : GdM f P) : GdM (withIt v f) P := by
  intro S n b S1 n1 hg e
  unfold withIt at e
  cases hc : f { S with it := v } n with
  | er x => rw [hc] at e; cases e
  | ok a S2 n2 =>
    rw [hc] at e
    injection e with e1 e2 e3
    subst e1; subst e2; subst e3
    obtain ⟨h1, h2⟩ := h { S with it := v } n a S2 n2 ⟨hg.key, hg.val, hg.acc, hg.i, hv, hg.out, hg.fuel⟩ hc
    exact ⟨h1, h2.key, h2.val, h2.acc, h2.i, hg.it, h2.out, h2.fuel⟩
theorem lp_good {g : M Va} (h : GdM g (fun a => rt a = true)) : ∀ (t : Nat) (k : Int) (v : Va), 0 ≤ k → k + t ≤ 9007199254740992 → rt v = true → GdM (lp g t k v) (fun a => rt a = true)
  | 0, _, _, _, _, hv => GdM.ret hv
  | t + 1, k, _, h0, h1, _ => by
    rw [lp_succ]
    exact (setI_good (by omega)).bnd fun _ _ => h.bnd fun v hv => lp_good h t (k + 1) v (by omega) (by omega) hv
theorem va_good {d : Nat} {f : List No → M Va} (hf : ∀ l r, ex d l = some r → GdM (f l) (fun a => rt a = true)) (hd : d ≤ 25) :
    ∀ (k : Nat) (r r' : List No) (acc : List Va), it (ex d) k r = some r' → AllR acc → GdM (va f k r acc) AllR
  | 0, _, _, _, _, ha => GdM.ret ha
  | k + 1, r, r', acc, h, ha => by
    rw [it_succ] at h
    obtain ⟨r1, h1, h2⟩ := Option.bind_eq_some_iff.1 h
    rw [va_succ, nx_of h1 hd]
    exact (hf r r1 h1).bnd fun v hv => va_good hf hd k r1 r' _ h2 (ha.snoc hv)
theorem body_good {d : Nat} (hf : ∀ l r, ex d l = some r → GdM (ev d l) (fun a => rt a = true)) (hd : d ≤ 25) {n : No} {r r' : List No} (hn : rn n = true) (h : it (ex d) (pa n.o) r = some r') :
    GdM (body (ev d) n r) (fun a => rt a = true) := by
  unfold body
  refine GdM.ite (fun h0 => ?_) fun h0 => GdM.ite (fun _ => nmd_good _) fun h1 => GdM.ite (fun h11 => ?_) fun _ => GdM.ite (fun h28 => ?_) fun _ => GdM.ite (fun h29 => ?_) fun _ => ?_
  · rcases rn_cases hn with ⟨_, g⟩ | ⟨g, _⟩ | ⟨g, _⟩
    · exact GdM.ret g
    · omega
    · omega
  · rw [h11] at h
    change it (ex d) 3 r = some r' at h
    rw [it_succ] at h
    obtain ⟨r1, e1, h⟩ := Option.bind_eq_some_iff.1 h
    rw [it_succ] at h
    obtain ⟨r2, e2, h⟩ := Option.bind_eq_some_iff.1 h
    rw [it_succ] at h
    obtain ⟨r3, e3, h⟩ := Option.bind_eq_some_iff.1 h
    rw [nx_of e1 hd, nx_of e2 hd]
    exact (hf _ _ e1).bnd fun a _ => GdM.ite (fun _ => GdM.fail) fun _ => GdM.ite (fun _ => hf _ _ e3) fun _ => hf _ _ e2
  · rw [h28] at h
    change it (ex d) 2 r = some r' at h
    rw [it_succ] at h
    obtain ⟨r1, e1, h⟩ := Option.bind_eq_some_iff.1 h
    rw [it_succ] at h
    obtain ⟨r2, e2, h⟩ := Option.bind_eq_some_iff.1 h
    rw [nx_of e1 hd]
    exact (hf _ _ e1).bnd fun a ha => GdM.ite (fun _ => GdM.fail) fun _ => GdM.ite (fun _ => GdM.fail) fun h0 => withI_good (lp_good (hf _ _ e2) _ _ _ (Int.le_refl 0) (by have := (rt_all ha).1; omega) rt_vz)
  · rw [h29] at h
    change it (ex d) 2 r = some r' at h
    rw [it_succ] at h
    obtain ⟨r1, e1, h⟩ := Option.bind_eq_some_iff.1 h
    rw [it_succ] at h
    obtain ⟨r2, e2, h⟩ := Option.bind_eq_some_iff.1 h
    rw [nx_of e1 hd]
    exact (hf _ _ e1).bnd fun a ha => withIt_good ha (hf _ _ e2)
  · exact (va_good hf hd _ _ _ _ h (fun v hv => by cases hv)).bnd fun l hl => ap_good _ hl
theorem ev_good : ∀ (d : Nat), d ≤ 25 → ∀ l r, ex d l = some r → GdM (ev d l) (fun a => rt a = true)
  | 0, _, _, _, h => by cases h
  | d + 1, hd, l, r, h => by
    cases l with
    | nil => cases h
    | cons n t =>
      rw [ex_cons] at h
      split at h
      · rename_i hn
        rw [ev_cons]
        exact tick_good.bnd fun _ _ => body_good (ev_good d (by omega)) (by omega) hn h
      · cases h
end Go.Proofs.YtcdjincaedpodaaGreatDoor.Ev
