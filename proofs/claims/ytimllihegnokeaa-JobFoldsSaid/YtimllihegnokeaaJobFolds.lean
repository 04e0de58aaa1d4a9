/-
  Proved: for every input the law JobFolds returns true, and leaves its arguments as they were. No condition.
-/
import Derived.Test.YtimllihegnokeaaRows
import Derived.WalkKit
import Derived.ProofKit
import Derived.OpenShut
import Derived.ShutString
import Derived.Test.YtimllihegnokeaaJoFoldc
import Derived.Test.YtimllihegnokeaaVaVal
namespace Go.Proofs.Ytimllihegnokeaa.jobFolds
open Go.ChangeShapes Go.WideShapes Go.ChangeAt Go.RowKit
open Go.ChangeMaps (open_string shut_string)
set_option linter.unusedVariables false      -- a walk need not use every 'w<i>' (that an integer argument fits its kind)

theorem own : ownKnob Try.prog.godebug = none := by kernel_rfl

open Go.Proofs.Ytimllihegnokeaa.Ov Go.Proofs.Ytimllihegnokeaa.Va
/-! ### STEP 1: THE WALK: the Go text returns true. 'Grown w w'': the world has at most new blocks (Derived/RowKit3.lean). Part the cases AHEAD of 'go_enter' where a test parts the walk; take each callee by a contract of your own. -/
theorem walk (a0 : Int) (k1 : Int) (n1 : Int) (s1 : ByteArray) (x1 : Int) (y1 : Int) (k2 : Int) (n2 : Int) (s2 : ByteArray) (x2 : Int) (y2 : Int) (k3 : Int) (n3 : Int) (s3 : ByteArray) (x3 : Int) (y3 : Int) (w0 : (Lit.int .u8 a0).wf = true) (wk1 : (Lit.int .i64 k1).wf = true) (wn1 : (Lit.int .i64 n1).wf = true) (ws1 : s1.size ≤ maxLen) (wx1 : (Lit.int .i64 x1).wf = true) (wy1 : (Lit.int .i64 y1).wf = true) (wk2 : (Lit.int .i64 k2).wf = true) (wn2 : (Lit.int .i64 n2).wf = true) (ws2 : s2.size ≤ maxLen) (wx2 : (Lit.int .i64 x2).wf = true) (wy2 : (Lit.int .i64 y2).wf = true) (wk3 : (Lit.int .i64 k3).wf = true) (wn3 : (Lit.int .i64 n3).wf = true) (ws3 : s3.size ≤ maxLen) (wx3 : (Lit.int .i64 x3).wf = true) (wy3 : (Lit.int .i64 y3).wf = true) (w : World) :
    Calls Try.prog 3 #[.int .u8 a0, .agg #[.int .i64 k1, .int .i64 n1, .string s1, .int .i64 x1, .int .i64 y1], .agg #[.int .i64 k2, .int .i64 n2, .string s2, .int .i64 x2, .int .i64 y2], .agg #[.int .i64 k3, .int .i64 n3, .string s3, .int .i64 x3, .int .i64 y3]] w fun e w' => e = .returned (.bool true) ∧ Below w.heap.size w w' := by
  have hb : 0 ≤ a0 ∧ a0 ≤ 255 := by simpa [Lit.wf, IntKind.min, IntKind.max, IntKind.signed, IntKind.bits] using w0
  have h := Jo.folds_core a0 (by omega) ⟨k1, n1, s1.data.toList, x1, y1⟩ ⟨k2, n2, s2.data.toList, x2, y2⟩ ⟨k3, n3, s3.data.toList, x3, y3⟩ w
  simp only [Jo.tx_self] at h
  exact h

/-! ### THE ROW's STEP: WRITTEN OUT: LEAVE IT -/
set_option maxRecDepth 100000 in
theorem lifted (os : Os) (started : os.Started) (H : Type) (enc : TypeId × Value → H) :
    ReturnsInHanded {} Try.checked os 3 .any (Rows.jobFoldsSpec.pre6 enc Try.prog Try.f3 Rows.jobFoldsRow.domain false) (Rows.jobFoldsSpec.post enc Try.prog Try.f3 false true false false) := by
  refine returnsInHanded_of_change (C := Try.checked) own started (by kernel_rfl) Try.func3
    (ChangeSpec.witness6 (enc := enc) (C := Try.checked) false ⟨#[], #[.int .u8 0, .agg #[.int .i64 0, .int .i64 0, .string ⟨#[]⟩, .int .i64 0, .int .i64 0], .agg #[.int .i64 0, .int .i64 0, .string ⟨#[]⟩, .int .i64 0, .int .i64 0], .agg #[.int .i64 0, .int .i64 0, .string ⟨#[]⟩, .int .i64 0, .int .i64 0]], []⟩ 8 (by kernel_rfl) (by kernel_rfl) (by kernel_rfl) (by kernel_rfl)) ?_
  intro W base args ds gs before hval0 hW hcnd _
  have hval : ∀ (j : Nat) t v, Try.f3.params[j]? = some t → args[j]? = some v → Value.okWide Try.prog W .any base t v := hval0
  have hW' := hW
  obtain ⟨p, q, hA0, hV, rfl, hfz, hnd⟩ := hW
  have hA : DataW.TrodAll enc Try.prog W 0 (fun _ => true) true Try.f3.params.toList args.toList ds p := hA0
  rw [Try.params3] at hA hval
  obtain ⟨v0, vs0, d0, ds0, p0, q0, hargs, rfl, rfl, h0, r0⟩ := trodAll_cons hA
  obtain ⟨v1, vs1, d1, ds1, p1, q1, rfl, rfl, rfl, h1, r1⟩ := trodAll_cons r0
  obtain ⟨v2, vs2, d2, ds2, p2, q2, rfl, rfl, rfl, h2, r2⟩ := trodAll_cons r1
  obtain ⟨v3, vs3, d3, ds3, p3, q3, rfl, rfl, rfl, h3, r3⟩ := trodAll_cons r2
  obtain ⟨rfl, rfl, rfl⟩ := trodAll_nil r3
  obtain rfl : args = #[v0, v1, v2, v3] := by cases args; simp_all
  obtain ⟨rfl, rfl⟩ := trodVars_none hV
  obtain ⟨a0, rfl, rfl, rfl, w0⟩ := open_int Try.underlying5 (hval 0 5 v0 rfl rfl) h0
  obtain ⟨k1, n1, s1, x1, y1, rfl, rfl, rfl, wk1, wn1, ws1, wx1, wy1⟩ := Va.val_of (hval 1 25 v1 rfl rfl) h1
  obtain ⟨k2, n2, s2, x2, y2, rfl, rfl, rfl, wk2, wn2, ws2, wx2, wy2⟩ := Va.val_of (hval 2 25 v2 rfl rfl) h2
  obtain ⟨k3, n3, s3, x3, y3, rfl, rfl, rfl, wk3, wn3, ws3, wx3, wy3⟩ := Va.val_of (hval 3 25 v3 rfl rfl) h3
  clear hA0 hval0
  simp only [List.append_nil] at hW'
  refine (walk a0 k1 n1 s1 x1 y1 k2 n2 s2 x2 y2 k3 n3 s3 x3 y3 w0 wk1 wn1 ws1 wx1 wy1 wk2 wn2 ws2 wx2 wy2 wk3 wn3 ws3 wx3 wy3 W).mono fun e W' ⟨he, bel⟩ => ?_
  subst he
  exact ⟨_, rfl, _, _, _, [], _, [], hW', trodAll_mk1 (shut_bool Try.underlying4 _), (trodAll_cons_mk (shut_int Try.underlying5 w0) (trodAll_cons_mk (Va.shut_val wk1 wn1 ws1 wx1 wy1) (trodAll_cons_mk (Va.shut_val wk2 wn2 ws2 wx2 wy2) (trodAll_cons_mk (Va.shut_val wk3 wn3 ws3 wx3 wy3) trodAll_mk0)))), rfl, bel.frame _, fun h => by cases h⟩

theorem over : Rows.jobFoldsRow.holds Try.pinned (OpenSpec.ofChange Rows.jobFoldsSpec) :=
  OpenClaim.holds_of_wide 3 Try.f3 rfl rfl rfl rfl rfl rfl rfl ⟨rfl, rfl, rfl, rfl, rfl⟩ rfl rfl rfl rfl rfl (by kernel_rfl) Try.func3 (by kernel_rfl)
    (of_decide_eq_true (by kernel_rfl)) (by unfold Func.isWrapper; first | (rw [if_pos (by decide +kernel)]; kernel_rfl) | (rw [if_neg (by decide +kernel)]; exact ⟨rfl, rfl⟩))
    (fun os started H enc _ => lifted os started H enc)

/-- ████ THE STATEMENT ████ -/
theorem proved : Rows.JobFoldsSaid :=
  over
#print axioms proved
end Go.Proofs.Ytimllihegnokeaa.jobFolds
