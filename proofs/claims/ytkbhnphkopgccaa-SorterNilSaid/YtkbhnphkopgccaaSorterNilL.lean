/-
  Proved: for every input the law SorterNil returns true, and leaves its arguments as they were. No condition.
-/
import Derived.Test.YtkbhnphkopgccaaRows
import Derived.WalkKit
import Derived.ProofKit
import Derived.OpenShut
import Derived.ShutString
import Derived.Test.YtkbhnphkopgccaaQ5
import Derived.Test.YtkbhnphkopgccaaQ3
namespace Go.Proofs.Ytkbhnphkopgccaa.sorterNil
open Go.ChangeShapes Go.WideShapes Go.ChangeAt Go.RowKit
open Go.ChangeMaps (open_string shut_string)
set_option linter.unusedVariables false      -- a walk need not use every 'w<i>' (that an integer argument fits its kind)
theorem own : ownKnob Try.prog.godebug = none := by kernel_rfl
theorem walk (u0 : ByteArray) (k0 : Int) (n0 : Int) (s0 : ByteArray) (x0 : Int) (y0 : Int) (wu0 : u0.size ≤ maxLen) (wk0 : (Lit.int .i64 k0).wf = true) (wn0 : (Lit.int .i64 n0).wf = true) (ws0 : s0.size ≤ maxLen) (wx0 : (Lit.int .i64 x0).wf = true) (wy0 : (Lit.int .i64 y0).wf = true) (w : World) :
 Calls Try.prog 7 #[.agg #[.string u0, .int .i64 k0, .int .i64 n0, .string s0, .int .i64 x0, .int .i64 y0]] w fun e w' => e = .returned (.bool true) ∧ Below w.heap.size w w' := by
 have h := So.nil_core (u0.data.toList, ⟨k0, n0, s0.data.toList, x0, y0⟩) w
 unfold Pr.pcl at h
 simp only [Ov.tx_of] at h
 exact h
set_option maxRecDepth 100000 in
theorem lifted (os : Os) (started : os.Started) (H : Type) (enc : TypeId × Value → H) :
 ReturnsInHanded {} Try.checked os 7 .any (Rows.sorterNilSpec.pre6 enc Try.prog Try.f7 Rows.sorterNilRow.domain false) (Rows.sorterNilSpec.post enc Try.prog Try.f7 false true false false) := by
 refine returnsInHanded_of_change (C := Try.checked) own started (by kernel_rfl) Try.func7
  (ChangeSpec.witness6 (enc := enc) (C := Try.checked) false ⟨#[], #[.agg #[.string ⟨#[]⟩, .int .i64 0, .int .i64 0, .string ⟨#[]⟩, .int .i64 0, .int .i64 0]], []⟩ 8 (by kernel_rfl) (by kernel_rfl) (by kernel_rfl) (by kernel_rfl)) ?_
 intro W base args ds gs before hval0 hW hcnd _
 have hval : ∀ (j : Nat) t v, Try.f7.params[j]? = some t → args[j]? = some v → Value.okWide Try.prog W .any base t v := hval0
 have hW' := hW
 obtain ⟨p, q, hA0, hV, rfl, hfz, hnd⟩ := hW
 have hA : DataW.TrodAll enc Try.prog W 0 (fun _ => true) true Try.f7.params.toList args.toList ds p := hA0
 rw [Try.params7] at hA hval
 obtain ⟨v0, vs0, d0, ds0, p0, q0, hargs, rfl, rfl, h0, r0⟩ := trodAll_cons hA
 obtain ⟨rfl, rfl, rfl⟩ := trodAll_nil r0
 obtain rfl : args = #[v0] := by cases args; simp_all
 obtain ⟨rfl, rfl⟩ := trodVars_none hV
 obtain ⟨u0, k0, n0, s0, x0, y0, rfl, rfl, rfl, wu0, wk0, wn0, ws0, wx0, wy0⟩ := Pr.pair_of (hval 0 49 v0 rfl rfl) h0
 clear hA0 hval0
 simp only [List.append_nil] at hW'
 refine (walk u0 k0 n0 s0 x0 y0 wu0 wk0 wn0 ws0 wx0 wy0 W).mono fun e W' ⟨he, bel⟩ => ?_
 subst he
 exact ⟨_, rfl, _, _, _, [], _, [], hW', trodAll_mk1 (shut_bool Try.underlying4 _), (trodAll_cons_mk (Pr.shut_pair wu0 wk0 wn0 ws0 wx0 wy0) trodAll_mk0), rfl, bel.frame _, fun h => by cases h⟩
theorem over : Rows.sorterNilRow.holds Try.pinned (OpenSpec.ofChange Rows.sorterNilSpec) :=
 OpenClaim.holds_of_wide 7 Try.f7 rfl rfl rfl rfl rfl rfl rfl ⟨rfl, rfl, rfl, rfl, rfl⟩ rfl rfl rfl rfl rfl (by kernel_rfl) Try.func7 (by kernel_rfl)
  (of_decide_eq_true (by kernel_rfl)) (by unfold Func.isWrapper; first | (rw [if_pos (by decide +kernel)]; kernel_rfl) | (rw [if_neg (by decide +kernel)]; exact ⟨rfl, rfl⟩))
  (fun os started H enc _ => lifted os started H enc)
theorem proved : Rows.SorterNilSaid :=
 over
#print axioms proved
end Go.Proofs.Ytkbhnphkopgccaa.sorterNil
