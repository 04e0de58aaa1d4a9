/-
  What cutDigits answers.
-/
import Derived.Test.YtpickeicchmhnaaDoorVaSmall
import Derived.Test.YtpickeicchmhnaaDoorOvJump
namespace Go.Proofs.YtpickeicchmhnaaDoor.Va
open Go.ChangeShapes Go.WideShapes Go.ChangeAt Go.RowKit Go.Proofs.YtpickeicchmhnaaDoor.Ov Go.Proofs.YtpickeicchmhnaaDoor.Tp

def JD (s : ByteArray) (w : World) (a' : Act) (w' : World) : Prop := ∃ (k n : Nat) (u7 u8 u9 u10 u11 u12 u13 u14 u15 u16 u17 u18 u19 u20 u21 u22 u23 u24 u25 u26 u27 u28 u29 u30 u31 u32 u33 u34 u35 u36 u37 u38 u39 u40 u41 u42 : Value),
  k ≤ s.size ∧ k ≤ tw s.data.toList ∧ n = sat (s.data.toList.take k) ∧ w' = w ∧
  a' = { tmps := #[.string s, undef, .int .i64 0, .int .i64 0, .int .i64 0, .int .i64 (n : Int), .int .i64 (k : Int), u7, u8, u9, u10, u11, u12, u13, u14, u15, u16, u17, u18, u19, u20, u21, u22, u23, u24, u25, u26, u27, u28, u29, u30, u31, u32, u33, u34, u35, u36, u37, u38, u39, u40, u41, u42], defers := [] }
def muD (s : ByteArray) (a : Act) (_ : World) : Nat := s.size - (intOf (a.tmps.getD 6 undef)).toNat
def cdv (r : Nat × Nat × Nat) : Value := .tuple #[.int .i64 (r.1 : Int), .int .i64 (r.2.1 : Int), .int .i64 (r.2.2 : Int)]
theorem sat_le (l : List UInt8) : sat l ≤ 9007199254740993 := by rw [sat_dv]; omega
theorem sat_take {s : ByteArray} {k : Nat} (h : k < s.size) : sat (s.data.toList.take (k + 1)) = min (10 * sat (s.data.toList.take k) + (s[k].toNat - 48)) 9007199254740993 := by
  rw [take_snoc s k h, sat_snoc]
theorem head_at {s : ByteArray} (h : 0 < s.size) : s.data.toList.head? = some s[0] := by
  have hl : 0 < s.data.toList.length := by simpa using h
  rw [List.head?_eq_getElem?, List.getElem?_eq_getElem hl]; rfl
theorem empty_of {s : ByteArray} (h : s.size = 0) : s.toList = [] := by
  rw [ByteArray.toList_eq]; exact List.eq_nil_of_length_eq_zero (by simpa using h)
theorem full_of {s : ByteArray} (h : s.size ≠ 0) : s.toList ≠ [] := by
  rw [ByteArray.toList_eq]; intro e
  have h1 := congrArg List.length e
  have h2 : s.data.toList.length = s.size := by simp
  rw [h2] at h1; exact h h1
/-- The end of cutDigits, behind k digits. -/
theorem cd_end {s : ByteArray} {k : Nat} (hk : tw s.data.toList = k) (hs : s.size ≠ 0) : cd s.data.toList = if k = 0 ∨ (1 < k ∧ (s[0]'(by omega)).toNat = 48) then (0, 0, 6) else (sat (s.data.toList.take k), k, 0) := by
  unfold cd
  rw [if_neg (by rw [← ByteArray.toList_eq]; exact full_of hs), hk, head_at (by omega)]
  have e : (some (s[0]'(by omega)) = some (48 : UInt8)) ↔ (s[0]'(by omega)).toNat = 48 := by
    constructor
    · intro h; rw [Option.some.inj h]; rfl
    · intro h; rw [UInt8.toNat_inj.1 (show (s[0]'(by omega)).toNat = (48 : UInt8).toNat from h)]
  simp only [e]
set_option maxRecDepth 100000 in
set_option maxHeartbeats 2000000 in
theorem cutDigits_any (s : ByteArray) (w : World) (hs : s.size ≤ 281474976710656) :
    Calls Tryd.prog 69 #[.string s] w fun e w' => e = .returned (cdv (cd s.data.toList)) ∧ w = w' := by
  go_enter Tryd.func69, Tryd.ntmps69
  go_wp2
  refine wp_scope_once 0 (JD s w) (muD s) rfl (fun NX => ?_) ?_
  · go_wp2_with (fail)
    go_step3
    rename_i hK
    exact hK _ _ (NX.out _ _ ⟨0, 0, _, _, _, _, _, _, _, _, _, _, _, _, _, _, _, _, _, _, _, _, _, _, _, _, _, _, _, _, _, _, _, _, _, _, _, _, by omega, by omega, by simp [sat], rfl, rfl⟩)
  · rintro a' w' ⟨k, n, u7, u8, u9, u10, u11, u12, u13, u14, u15, u16, u17, u18, u19, u20, u21, u22, u23, u24, u25, u26, u27, u28, u29, u30, u31, u32, u33, u34, u35, u36, u37, u38, u39, u40, u41, u42, hk, htw, hn, rfl, rfl⟩
    have HN := Lib.hid hn
    have hnb : n ≤ 9007199254740993 := by rw [hn]; exact sat_le _
    clear hn
    by_cases hd : ∃ h : k < s.size, dg s[k] = true
    · obtain ⟨hlt, hd⟩ := hd
      have HT := Lib.hid (tw_yes (l := s.data.toList) (k := k) (by simpa using hlt) htw hd)
      have HS := Lib.hid (sat_take hlt)
      obtain ⟨c, hc⟩ : ∃ c : UInt8, s[k] = c := ⟨_, rfl⟩
      rw [hc] at HS hd
      have HG := Lib.hid (isDigit_any c)
      rw [hd] at HG
      obtain ⟨b1, b2⟩ : 48 ≤ c.toNat ∧ c.toNat ≤ 57 := of_decide_eq_true hd
      clear hd htw
      go_wp2_with (fail)
      refine (HG.out _).mono ?_
      rintro e w' ⟨rfl, rfl⟩
      have HM : Hid (min (10 * (n : Int) + ((c.toNat : Int) - 48)) 9007199254740993 = ((min (10 * n + (c.toNat - 48)) 9007199254740993 : Nat) : Int)) := by show _ = _; omega
      go_wp2_with (fail)
      go_step3
      refine ⟨rfl, ⟨k + 1, min (10 * n + (c.toNat - 48)) 9007199254740993, _, _, _, _, _, _, _, _, _, _, _, _, _, _, _, _, _, _, _, _, _, _, _, _, _, _, _, _, _, _, _, _, _, _, _, _, by omega, HT.out, by rw [HS.out, ← HN.out], rfl, by rw [HM.out]; rfl⟩, ?_⟩
      simp [muD, intOf]; omega
    · have HK : Hid (tw s.data.toList = k) := by
        show _ = _
        by_cases hlt : k < s.size
        · exact tw_no (by simpa using hlt) htw (by
            rcases Bool.eq_false_or_eq_true (dg s[k]) with e | e
            · exact absurd ⟨hlt, e⟩ hd
            · exact e)
        · have := tw_le s.data.toList
          have h2 : s.data.toList.length = s.size := by simp
          omega
      clear htw
      by_cases hz : s.size = 0
      · have h1 := empty_of hz
        have h2 : ¬ (k : Int) < (s.size : Int) := by omega
        have HE : Hid (cd s.data.toList = (0, 0, 2)) := by
          show _ = _
          unfold cd; rw [if_pos (by rw [← ByteArray.toList_eq]; exact h1)]
        clear hd
        go_wp2_with (fail)
        simp only [Exit.jump]
        go_ret3
        exact ⟨by rw [HE.out]; rfl, rfl⟩
      · have h1 := full_of hz
        have h1' : s.toList.isEmpty = false := by simpa using h1
        have HC := Lib.hid (cd_end HK.out hz)
        have h3 : 0 < s.size := by omega
        obtain ⟨c0, hc0⟩ : ∃ c : UInt8, s[0]'h3 = c := ⟨_, rfl⟩
        rw [hc0] at HC
        by_cases k0 : k = 0
        · subst k0
          have HE : Hid (cd s.data.toList = (0, 0, 6)) := by
            show _ = _
            rw [HC.out, if_pos (.inl rfl)]
          clear HC HK
          have hdn : dg c0 = false := by
            rcases Bool.eq_false_or_eq_true (dg c0) with e | e
            · exact absurd ⟨h3, by rw [hc0]; exact e⟩ hd
            · exact e
          have HG := Lib.hid (isDigit_any c0)
          rw [hdn] at HG
          clear hdn hd
          go_wp2_with (fail)
          refine (HG.out _).mono ?_
          rintro e w' ⟨rfl, rfl⟩
          go_wp2_with (fail)
          simp only [Exit.jump]
          go_ret3
          exact ⟨by rw [HE.out]; rfl, rfl⟩
        · have g0 : ((k : Int) == 0) = false := by rw [beq_eq_false_iff_ne]; omega
          by_cases k1 : 1 < k
          · have g1 : (1 : Int) < (k : Int) := by omega
            by_cases k2 : c0.toNat = 48
            · have g2 : ((c0.toNat : Int) == 48) = true := by rw [beq_iff_eq]; omega
              have HE : Hid (cd s.data.toList = (0, 0, 6)) := by
                show _ = _
                rw [HC.out, if_pos (.inr ⟨k1, k2⟩)]
              clear HC HK k2
              by_cases hlt : k < s.size
              · have hdn : dg s[k] = false := by
                  rcases Bool.eq_false_or_eq_true (dg s[k]) with e | e
                  · exact absurd ⟨hlt, e⟩ hd
                  · exact e
                obtain ⟨c, hc⟩ : ∃ c : UInt8, s[k] = c := ⟨_, rfl⟩
                rw [hc] at hdn
                have HG := Lib.hid (isDigit_any c)
                rw [hdn] at HG
                clear hdn hd
                go_wp2_with (fail)
                refine (HG.out _).mono ?_
                rintro e w' ⟨rfl, rfl⟩
                go_wp2_with (fail)
                simp only [Exit.jump]
                go_ret3
                exact ⟨by rw [HE.out]; rfl, rfl⟩
              · clear hd
                go_wp2_with (fail)
                simp only [Exit.jump]
                go_ret3
                exact ⟨by rw [HE.out]; rfl, rfl⟩
            · have g2 : ((c0.toNat : Int) == 48) = false := by rw [beq_eq_false_iff_ne]; omega
              have HE : Hid (cd s.data.toList = (n, k, 0)) := by
                show _ = _
                rw [HC.out, if_neg (by omega), HN.out]
              clear HC HK k2
              by_cases hlt : k < s.size
              · have hdn : dg s[k] = false := by
                  rcases Bool.eq_false_or_eq_true (dg s[k]) with e | e
                  · exact absurd ⟨hlt, e⟩ hd
                  · exact e
                obtain ⟨c, hc⟩ : ∃ c : UInt8, s[k] = c := ⟨_, rfl⟩
                rw [hc] at hdn
                have HG := Lib.hid (isDigit_any c)
                rw [hdn] at HG
                clear hdn hd
                go_wp2_with (fail)
                refine (HG.out _).mono ?_
                rintro e w' ⟨rfl, rfl⟩
                go_wp2_with (fail)
                simp only [Exit.jump]
                go_ret3
                exact ⟨by rw [HE.out]; rfl, rfl⟩
              · clear hd
                go_wp2_with (fail)
                simp only [Exit.jump]
                go_ret3
                exact ⟨by rw [HE.out]; rfl, rfl⟩
          · have g1 : ¬ (1 : Int) < (k : Int) := by omega
            have HE : Hid (cd s.data.toList = (n, k, 0)) := by
              show _ = _
              rw [HC.out, if_neg (by omega), HN.out]
            clear HC HK
            by_cases hlt : k < s.size
            · have hdn : dg s[k] = false := by
                rcases Bool.eq_false_or_eq_true (dg s[k]) with e | e
                · exact absurd ⟨hlt, e⟩ hd
                · exact e
              obtain ⟨c, hc⟩ : ∃ c : UInt8, s[k] = c := ⟨_, rfl⟩
              rw [hc] at hdn
              have HG := Lib.hid (isDigit_any c)
              rw [hdn] at HG
              clear hdn hd
              go_wp2_with (fail)
              refine (HG.out _).mono ?_
              rintro e w' ⟨rfl, rfl⟩
              go_wp2_with (fail)
              simp only [Exit.jump]
              go_ret3
              exact ⟨by rw [HE.out]; rfl, rfl⟩
            · clear hd
              go_wp2_with (fail)
              simp only [Exit.jump]
              go_ret3
              exact ⟨by rw [HE.out]; rfl, rfl⟩
end Go.Proofs.YtpickeicchmhnaaDoor.Va
