/-
  Proved: for every input the law GfPowers returns true, and leaves its arguments as they were. No condition.
-/
import Derived.Test.YtdakempjmnpknaaRows
import Derived.WalkKit
import Derived.ProofKit
import Derived.OpenShut
import Derived.ShutString
import Derived.Test.YtdakempjmnpknaaGfAwake
namespace Go.Proofs.Ytdakempjmnpknaa.gfPowers
open Go.ChangeShapes Go.WideShapes Go.ChangeAt Go.RowKit
open Go.ChangeMaps (open_string shut_string)
set_option linter.unusedVariables false      -- a walk need not use every 'w<i>' (that an integer argument fits its kind)

theorem own : ownKnob Try.prog.godebug = none := by kernel_rfl

open Go.Proofs.Ytdakempjmnpknaa.Gf
set_option maxHeartbeats 1000000 in
theorem head (a : Nat) (n m : Int) (ha : a < 256) (w : World) :
    Calls Try.prog 4 #[.int .u8 (a : Int), .int .i64 n, .int .i64 m] w fun e w' => e = .returned (.bool true) ∧ Grown w w' := by
  have HF0 := Lib.hid (fresh_F w)
  have HF := Lib.hid (fresh_old (fresh_F w) (show w.heap.size < (fresh w).heap.size from by simp [fresh]))
  have GL := Lib.hid (gp_lt a)
  have EL := Lib.hid ex_lt
  have GG := Lib.hid (grown_trans (fresh_grown w) (fresh_grown (fresh w)))
  have t1 : -100000 < n.tmod 100000 := Int.lt_tmod_of_pos n (by omega)
  have t2 : n.tmod 100000 < 100000 := Int.tmod_lt_of_pos n (by omega)
  have t3 : -100000 < m.tmod 100000 := Int.lt_tmod_of_pos m (by omega)
  have t4 : m.tmod 100000 < 100000 := Int.tmod_lt_of_pos m (by omega)
  go_enter Try.func4, Try.ntmps4
  go_wp2_with fail
  refine (new_fresh _).mono ?_
  rintro e w' ⟨rfl, rfl⟩
  go_wp2_with fail
  generalize n.tmod 100000 = k at *
  generalize m.tmod 100000 = l at *
  have G1 := Lib.hid (ex_add k l)
  by_cases h0 : a = 0
  · have hb0 : ((a : Int) != 0) = false := by simp; omega
    have hb1 : ((a : Int) == 0) = true := by simp; omega
    refine (logZ _ a h0 _).mono ?_
    rintro e w' ⟨rfl, rfl⟩
    clear h0
    go_wp2_with fail
    refine (awake_any _).mono ?_
    rintro e w' ⟨rfl, m1, rfl⟩
    go_wp2_with fail
    refine (exp_any _ k _ (HF.out.drewN _)).mono ?_
    rintro e w' ⟨rfl, m2, rfl⟩
    go_wp2_with fail
    refine (exp_any _ l _ (HF.out.drewN _)).mono ?_
    rintro e w' ⟨rfl, m3, rfl⟩
    go_wp2_with fail
    refine (mulN _ (ex k) (ex l) (EL.out _) (EL.out _) _ (HF.out.drewN _)).mono ?_
    rintro e w' ⟨rfl, m4, rfl⟩
    rw [G1.out]
    go_wp2_with fail
    refine (exp_any _ (k + l) _ (HF.out.drewN _)).mono ?_
    rintro e w' ⟨rfl, m5, rfl⟩
    go_wp2_with fail
    go_ret
    exact ⟨rfl, grown_drewN GG.out _⟩
  · have hb0 : ((a : Int) != 0) = true := by simp; omega
    have hb1 : ((a : Int) == 0) = false := by simp; omega
    have G2 := Lib.hid (ex_lg a ha h0)
    have G3 := Lib.hid (gp_add a k l h0)
    refine (logN _ a h0 ha _ HF0.out).mono ?_
    rintro e w' ⟨rfl, rfl⟩
    clear h0
    go_wp2_with fail
    refine (awake_any _).mono ?_
    rintro e w' ⟨rfl, m1, rfl⟩
    go_wp2_with fail
    refine (exp_any _ k _ (HF.out.drewN _)).mono ?_
    rintro e w' ⟨rfl, m2, rfl⟩
    go_wp2_with fail
    refine (exp_any _ l _ (HF.out.drewN _)).mono ?_
    rintro e w' ⟨rfl, m3, rfl⟩
    go_wp2_with fail
    refine (mulN _ (ex k) (ex l) (EL.out _) (EL.out _) _ (HF.out.drewN _)).mono ?_
    rintro e w' ⟨rfl, m4, rfl⟩
    rw [G1.out]
    go_wp2_with fail
    refine (exp_any _ (k + l) _ (HF.out.drewN _)).mono ?_
    rintro e w' ⟨rfl, m5, rfl⟩
    go_wp2_with fail
    refine (exp_any _ (lg a) _ (HF.out.drewN _)).mono ?_
    rintro e w' ⟨rfl, m6, rfl⟩
    rw [G2.out]
    go_wp2_with fail
    refine (powN _ a k ha _ (HF.out.drewN _)).mono ?_
    rintro e w' ⟨rfl, m7, rfl⟩
    go_wp2_with fail
    refine (powN _ a l ha _ (HF.out.drewN _)).mono ?_
    rintro e w' ⟨rfl, m8, rfl⟩
    go_wp2_with fail
    refine (mulN _ (gp a k) (gp a l) (GL.out _) (GL.out _) _ (HF.out.drewN _)).mono ?_
    rintro e w' ⟨rfl, m9, rfl⟩
    rw [G3.out]
    go_wp2_with fail
    refine (powN _ a (k + l) ha _ (HF.out.drewN _)).mono ?_
    rintro e w' ⟨rfl, m10, rfl⟩
    go_wp2_with fail
    go_ret
    exact ⟨rfl, grown_drewN GG.out _⟩
/-! ### STEP 1: THE WALK: the Go text returns true. 'Grown w w'': the world has at most new blocks (Derived/RowKit3.lean). Part the cases AHEAD of 'go_enter' where a test parts the walk; take each callee by a contract of your own. -/
theorem walk (a0 : Int) (a1 : Int) (a2 : Int) (w0 : (Lit.int .u8 a0).wf = true) (w1 : (Lit.int .i64 a1).wf = true) (w2 : (Lit.int .i64 a2).wf = true) (w : World) :
    Calls Try.prog 4 #[.int .u8 a0, .int .i64 a1, .int .i64 a2] w fun e w' => e = .returned (.bool true) ∧ Grown w w' := by
  obtain ⟨a, rfl, ha⟩ := u8_nat w0
  exact head a a1 a2 ha w

/-! ### THE ROW's STEP: WRITTEN OUT: LEAVE IT -/
set_option maxRecDepth 100000 in
theorem lifted (os : Os) (started : os.Started) (H : Type) (enc : TypeId × Value → H) :
    ReturnsInHanded {} Try.checked os 4 .any (Rows.gfPowersSpec.pre6 enc Try.prog Try.f4 Rows.gfPowersRow.domain false) (Rows.gfPowersSpec.post enc Try.prog Try.f4 false true false false) := by
  refine returnsInHanded_of_change (C := Try.checked) own started (by kernel_rfl) Try.func4
    (ChangeSpec.witness6 (enc := enc) (C := Try.checked) false ⟨#[], #[.int .u8 0, .int .i64 0, .int .i64 0], []⟩ 8 (by kernel_rfl) (by kernel_rfl) (by kernel_rfl) (by kernel_rfl)) ?_
  intro W base args ds gs before hval0 hW hcnd _
  have hval : ∀ (j : Nat) t v, Try.f4.params[j]? = some t → args[j]? = some v → Value.okWide Try.prog W .any base t v := hval0
  have hW' := hW
  obtain ⟨p, q, hA0, hV, rfl, hfz, hnd⟩ := hW
  have hA : DataW.TrodAll enc Try.prog W 0 (fun _ => true) true Try.f4.params.toList args.toList ds p := hA0
  rw [Try.params4] at hA hval
  obtain ⟨v0, vs0, d0, ds0, p0, q0, hargs, rfl, rfl, h0, r0⟩ := trodAll_cons hA
  obtain ⟨v1, vs1, d1, ds1, p1, q1, rfl, rfl, rfl, h1, r1⟩ := trodAll_cons r0
  obtain ⟨v2, vs2, d2, ds2, p2, q2, rfl, rfl, rfl, h2, r2⟩ := trodAll_cons r1
  obtain ⟨rfl, rfl, rfl⟩ := trodAll_nil r2
  obtain rfl : args = #[v0, v1, v2] := by cases args; simp_all
  obtain ⟨rfl, rfl⟩ := trodVars_none hV
  obtain ⟨a0, rfl, rfl, rfl, w0⟩ := open_int Try.underlying5 (hval 0 5 v0 rfl rfl) h0
  obtain ⟨a1, rfl, rfl, rfl, w1⟩ := open_int Try.underlying3 (hval 1 3 v1 rfl rfl) h1
  obtain ⟨a2, rfl, rfl, rfl, w2⟩ := open_int Try.underlying3 (hval 2 3 v2 rfl rfl) h2
  clear hA0 hval0
  simp only [List.append_nil] at hW'
  refine (walk a0 a1 a2 w0 w1 w2 W).mono fun e W' ⟨he, hg⟩ => ?_
  subst he
  exact ⟨_, rfl, post_of_same (pa := []) (pv := []) hW' (fun _ _ _ => (trodAll_cons_mk (shut_bool Try.underlying4 _) trodAll_mk0)) (fun sp _ => (trodAll_cons_mk (shut_int Try.underlying5 w0) (trodAll_cons_mk (shut_int Try.underlying3 w1) (trodAll_cons_mk (shut_int Try.underlying3 w2) trodAll_mk0)))) (fun _ _ => rfl) rfl
    (hg.frame _) hg.2.1 (ok_one (by kernel_rfl) rfl (okWide_bool_mk Try.underlying4 _))⟩

theorem over : Rows.gfPowersRow.holds Try.pinned (OpenSpec.ofChange Rows.gfPowersSpec) :=
  OpenClaim.holds_of_wide 4 Try.f4 rfl rfl rfl rfl rfl rfl rfl ⟨rfl, rfl, rfl, rfl, rfl⟩ rfl rfl rfl rfl rfl (by kernel_rfl) Try.func4 (by kernel_rfl)
    (of_decide_eq_true (by kernel_rfl)) (by unfold Func.isWrapper; first | (rw [if_pos (by decide +kernel)]; kernel_rfl) | (rw [if_neg (by decide +kernel)]; exact ⟨rfl, rfl⟩))
    (fun os started H enc _ => lifted os started H enc)

/-- ████ THE STATEMENT ████ -/
theorem proved : Rows.GfPowersSaid :=
  over
#print axioms proved
end Go.Proofs.Ytdakempjmnpknaa.gfPowers
