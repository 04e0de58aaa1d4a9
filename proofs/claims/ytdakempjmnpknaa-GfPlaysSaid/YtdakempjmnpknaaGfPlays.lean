/-
  Proved: for every input the law GfPlays returns true, and leaves its arguments as they were. No condition.
-/
import Derived.Test.YtdakempjmnpknaaRows
import Derived.WalkKit
import Derived.ProofKit
import Derived.OpenShut
import Derived.ShutString
import Derived.Test.YtdakempjmnpknaaGfRef
namespace Go.Proofs.Ytdakempjmnpknaa.gfPlays
open Go.ChangeShapes Go.WideShapes Go.ChangeAt Go.RowKit
open Go.ChangeMaps (open_string shut_string)
set_option linter.unusedVariables false      -- a walk need not use every 'w<i>' (that an integer argument fits its kind)

theorem own : ownKnob Try.prog.godebug = none := by kernel_rfl

open Go.Proofs.Ytdakempjmnpknaa.Gf
set_option maxRecDepth 100000 in
set_option maxHeartbeats 1000000 in
theorem head (a b : Nat) (n : Int) (ha : a < 256) (hb : b < 256) (w : World) :
    Calls Try.prog 5 #[.int .u8 (a : Int), .int .u8 (b : Int), .int .i64 n] w fun e w' => e = .returned (.bool true) ∧ Grown w w' := by
  have HF0 := Lib.hid (fresh_F w)
  have HF := Lib.hid (fresh_old (fresh_F w) (show w.heap.size < (fresh w).heap.size from by simp [fresh]))
  have GL := Lib.hid (gp_lt a)
  have l1 := gm_lt a b
  have l2 := gq_lt a b
  have l3 := ex_lt n
  have GG := Lib.hid (grown_trans (fresh_grown w) (fresh_grown (fresh w)))
  obtain ⟨r, hr1, hr2, hr3, hr4⟩ := rest_nat n
  have R1 := Lib.hid hr1; have R3 := Lib.hid hr3
  by_cases h0 : a = 0
  · clear hr1 hr3 hr4
    have hb0 : ((a : Int) != 0) = false := by simp; omega
    have hb1 : ((a : Int) == 0) = true := by simp; omega
    have RL : Hid (rl a = -1) := by show _ = _; rw [rl, if_pos h0]
    have GZ : Hid (n ≠ 0 → gp a n = 0) := fun h => by rw [gp, if_neg h, if_pos h0]
    have GO : Hid (gp a 0 = 1) := rfl
    have HZ := Lib.hid h0; clear h0
    go_enter Try.func5, Try.ntmps5
    go_wp2_with fail
    refine (new_fresh _).mono ?_
    rintro e w' ⟨rfl, rfl⟩
    go_wp2_with fail
    refine (divU _ a b ha hb _ HF0.out).mono ?_
    rintro e w' ⟨rfl, m0, rfl⟩
    go_wp2_with fail
    refine (logZ _ a HZ.out _).mono ?_
    rintro e w' ⟨rfl, rfl⟩
    go_wp2_with fail
    refine (reflog_any a ha _).mono ?_
    rintro e w' ⟨rfl, rfl⟩
    rw [RL.out]
    go_wp2_with fail
    refine (awake_any _).mono ?_
    rintro e w' ⟨rfl, m1, rfl⟩
    rw [fresh_drewN]
    go_wp2_with fail
    refine (mulN _ a b ha hb _ (HF.out.drewN _)).mono ?_
    rintro e w' ⟨rfl, m2, rfl⟩
    go_wp2_with fail
    refine (refmul_any a b ha hb _).mono ?_
    rintro e w' ⟨rfl, rfl⟩
    go_wp2_with fail
    refine (exp_any _ n _ (HF.out.drewN _)).mono ?_
    rintro e w' ⟨rfl, m3, rfl⟩
    go_wp2_with fail
    refine (refrest_any n _).mono ?_
    rintro e w' ⟨rfl, rfl⟩
    rw [R1.out]
    go_wp2_with fail
    refine (refpow_any 2 r (by omega) (by omega) hr2 _).mono ?_
    rintro e w' ⟨rfl, rfl⟩
    rw [R3.out]
    go_wp2_with fail
    refine (refinv_any b hb _).mono ?_
    rintro e w' ⟨i, hi, rfl, rfl⟩
    have HI := Lib.hid (gq_inv a b i ha hb hi)
    have hi1 := hi.1
    clear hi
    go_wp2_with fail
    refine (refmul_any a i ha hi1 _).mono ?_
    rintro e w' ⟨rfl, rfl⟩
    rw [HI.out]
    go_wp2_with fail
    refine (powN _ a n ha _ (HF.out.drewN _)).mono ?_
    rintro e w' ⟨rfl, m4, rfl⟩
    by_cases hn : n = 0
    · subst hn
      rw [GO.out]
      go_wp2_with fail
      refine (powN _ a 0 ha _ (HF.out.drewN _)).mono ?_
      rintro e w' ⟨rfl, m5, rfl⟩
      rw [GO.out]
      go_wp2_with fail
      go_ret
      exact ⟨rfl, grown_drewN GG.out _⟩
    · rw [GZ.out hn]
      have hn1 : (n != 0) = true := by simpa using hn
      clear hn
      go_wp2_with fail
      go_ret
      exact ⟨rfl, grown_drewN GG.out _⟩
  · have R4 := Lib.hid (hr4 a h0)
    clear hr1 hr3 hr4
    have hb0 : ((a : Int) != 0) = true := by simp; omega
    have hb1 : ((a : Int) == 0) = false := by simp; omega
    have RL : Hid (rl a = (lg a : Int)) := by show _ = _; rw [rl, if_neg h0]
    have ll := lg_le a ha
    go_enter Try.func5, Try.ntmps5
    go_wp2_with fail
    refine (new_fresh _).mono ?_
    rintro e w' ⟨rfl, rfl⟩
    go_wp2_with fail
    refine (divU _ a b ha hb _ HF0.out).mono ?_
    rintro e w' ⟨rfl, m0, rfl⟩
    go_wp2_with fail
    refine (logN _ a h0 ha _ (HF0.out.drewN _)).mono ?_
    rintro e w' ⟨rfl, rfl⟩
    go_wp2_with fail
    refine (reflog_any a ha _).mono ?_
    rintro e w' ⟨rfl, rfl⟩
    rw [RL.out]
    go_wp2_with fail
    refine (awake_any _).mono ?_
    rintro e w' ⟨rfl, m1, rfl⟩
    rw [fresh_drewN]
    go_wp2_with fail
    refine (mulN _ a b ha hb _ (HF.out.drewN _)).mono ?_
    rintro e w' ⟨rfl, m2, rfl⟩
    go_wp2_with fail
    refine (refmul_any a b ha hb _).mono ?_
    rintro e w' ⟨rfl, rfl⟩
    go_wp2_with fail
    refine (exp_any _ n _ (HF.out.drewN _)).mono ?_
    rintro e w' ⟨rfl, m3, rfl⟩
    go_wp2_with fail
    refine (refrest_any n _).mono ?_
    rintro e w' ⟨rfl, rfl⟩
    rw [R1.out]
    go_wp2_with fail
    refine (refpow_any 2 r (by omega) (by omega) hr2 _).mono ?_
    rintro e w' ⟨rfl, rfl⟩
    rw [R3.out]
    go_wp2_with fail
    refine (refinv_any b hb _).mono ?_
    rintro e w' ⟨i, hi, rfl, rfl⟩
    have HI := Lib.hid (gq_inv a b i ha hb hi)
    have hi1 := hi.1
    clear hi
    go_wp2_with fail
    refine (refmul_any a i ha hi1 _).mono ?_
    rintro e w' ⟨rfl, rfl⟩
    rw [HI.out]
    go_wp2_with fail
    refine (powN _ a n ha _ (HF.out.drewN _)).mono ?_
    rintro e w' ⟨rfl, m4, rfl⟩
    rw [R4.out]
    have l5 := ex_lt ((lg a : Int) * (r : Int))
    go_wp2_with fail
    refine (refrest_any n _).mono ?_
    rintro e w' ⟨rfl, rfl⟩
    rw [R1.out]
    go_wp2_with fail
    refine (refpow_any a r ha h0 hr2 _).mono ?_
    rintro e w' ⟨rfl, rfl⟩
    go_wp2_with fail
    go_ret
    exact ⟨rfl, grown_drewN GG.out _⟩
/-! ### STEP 1: THE WALK: the Go text returns true. 'Grown w w'': the world has at most new blocks (Derived/RowKit3.lean). Part the cases AHEAD of 'go_enter' where a test parts the walk; take each callee by a contract of your own. -/
theorem walk (a0 : Int) (a1 : Int) (a2 : Int) (w0 : (Lit.int .u8 a0).wf = true) (w1 : (Lit.int .u8 a1).wf = true) (w2 : (Lit.int .i64 a2).wf = true) (w : World) :
    Calls Try.prog 5 #[.int .u8 a0, .int .u8 a1, .int .i64 a2] w fun e w' => e = .returned (.bool true) ∧ Grown w w' := by
  obtain ⟨a, rfl, ha⟩ := u8_nat w0
  obtain ⟨b, rfl, hb⟩ := u8_nat w1
  exact head a b a2 ha hb w

/-! ### THE ROW's STEP: WRITTEN OUT: LEAVE IT -/
set_option maxRecDepth 100000 in
theorem lifted (os : Os) (started : os.Started) (H : Type) (enc : TypeId × Value → H) :
    ReturnsInHanded {} Try.checked os 5 .any (Rows.gfPlaysSpec.pre6 enc Try.prog Try.f5 Rows.gfPlaysRow.domain false) (Rows.gfPlaysSpec.post enc Try.prog Try.f5 false true false false) := by
  refine returnsInHanded_of_change (C := Try.checked) own started (by kernel_rfl) Try.func5
    (ChangeSpec.witness6 (enc := enc) (C := Try.checked) false ⟨#[], #[.int .u8 0, .int .u8 0, .int .i64 0], []⟩ 8 (by kernel_rfl) (by kernel_rfl) (by kernel_rfl) (by kernel_rfl)) ?_
  intro W base args ds gs before hval0 hW hcnd _
  have hval : ∀ (j : Nat) t v, Try.f5.params[j]? = some t → args[j]? = some v → Value.okWide Try.prog W .any base t v := hval0
  have hW' := hW
  obtain ⟨p, q, hA0, hV, rfl, hfz, hnd⟩ := hW
  have hA : DataW.TrodAll enc Try.prog W 0 (fun _ => true) true Try.f5.params.toList args.toList ds p := hA0
  rw [Try.params5] at hA hval
  obtain ⟨v0, vs0, d0, ds0, p0, q0, hargs, rfl, rfl, h0, r0⟩ := trodAll_cons hA
  obtain ⟨v1, vs1, d1, ds1, p1, q1, rfl, rfl, rfl, h1, r1⟩ := trodAll_cons r0
  obtain ⟨v2, vs2, d2, ds2, p2, q2, rfl, rfl, rfl, h2, r2⟩ := trodAll_cons r1
  obtain ⟨rfl, rfl, rfl⟩ := trodAll_nil r2
  obtain rfl : args = #[v0, v1, v2] := by cases args; simp_all
  obtain ⟨rfl, rfl⟩ := trodVars_none hV
  obtain ⟨a0, rfl, rfl, rfl, w0⟩ := open_int Try.underlying5 (hval 0 5 v0 rfl rfl) h0
  obtain ⟨a1, rfl, rfl, rfl, w1⟩ := open_int Try.underlying5 (hval 1 5 v1 rfl rfl) h1
  obtain ⟨a2, rfl, rfl, rfl, w2⟩ := open_int Try.underlying3 (hval 2 3 v2 rfl rfl) h2
  clear hA0 hval0
  simp only [List.append_nil] at hW'
  refine (walk a0 a1 a2 w0 w1 w2 W).mono fun e W' ⟨he, hg⟩ => ?_
  subst he
  exact ⟨_, rfl, post_of_same (pa := []) (pv := []) hW' (fun _ _ _ => (trodAll_cons_mk (shut_bool Try.underlying4 _) trodAll_mk0)) (fun sp _ => (trodAll_cons_mk (shut_int Try.underlying5 w0) (trodAll_cons_mk (shut_int Try.underlying5 w1) (trodAll_cons_mk (shut_int Try.underlying3 w2) trodAll_mk0)))) (fun _ _ => rfl) rfl
    (hg.frame _) hg.2.1 (ok_one (by kernel_rfl) rfl (okWide_bool_mk Try.underlying4 _))⟩

theorem over : Rows.gfPlaysRow.holds Try.pinned (OpenSpec.ofChange Rows.gfPlaysSpec) :=
  OpenClaim.holds_of_wide 5 Try.f5 rfl rfl rfl rfl rfl rfl rfl ⟨rfl, rfl, rfl, rfl, rfl⟩ rfl rfl rfl rfl rfl (by kernel_rfl) Try.func5 (by kernel_rfl)
    (of_decide_eq_true (by kernel_rfl)) (by unfold Func.isWrapper; first | (rw [if_pos (by decide +kernel)]; kernel_rfl) | (rw [if_neg (by decide +kernel)]; exact ⟨rfl, rfl⟩))
    (fun os started H enc _ => lifted os started H enc)

/-- ████ THE STATEMENT ████ -/
theorem proved : Rows.GfPlaysSaid :=
  over
#print axioms proved
end Go.Proofs.Ytdakempjmnpknaa.gfPlays
