/-
  Proved: for every input the law RowsUndo returns true, and leaves its arguments as they were. No condition.
-/
import Derived.Test.YtnobpdgicglieaaRows
import Derived.WalkKit
import Derived.ProofKit
import Derived.OpenShut
import Derived.ShutString
import Derived.ChangeOld
import Derived.Below
import Derived.Test.YtnobpdgicglieaaMxArg
namespace Go.Proofs.Ytnobpdgicglieaa.rowsUndo
open Go.ChangeShapes Go.WideShapes Go.ChangeAt Go.RowKit
open Go.ChangeMaps (open_string shut_string)
set_option linter.unusedVariables false

theorem own : ownKnob Try.prog.godebug = none := by kernel_rfl
theorem laidOut : laidOutB Try.prog = true := by kernel_rfl

open Go.Proofs.Ytnobpdgicglieaa.Gf Go.Proofs.Ytnobpdgicglieaa.Mx
set_option maxRecDepth 100000 in
set_option maxHeartbeats 1000000 in
theorem large (p : Option Addr) (n cn : Nat) (z : Mx.MatArg) (w : World) (hz : z.In w p n) (h : ¬ FewP n z.L) :
    Calls Try.prog 3 #[.slice p n cn] w fun e w' => e = .returned (.bool true) ∧ Below w.heap.size w w' := by
  have HZ := Lib.hid hz; have H := Lib.hid h; clear hz h
  go_enter Try.func3, Try.ntmps3
  go_wp2_with fail
  refine (awake_any _).mono ?_
  rintro e w1 ⟨rfl, hb1⟩
  have HB1 := Lib.hid hb1; clear hb1
  have HZ1 := Lib.hid (HZ.out.below HB1.out)
  go_wp2_with fail
  refine (few_no _ _ _ _ _ _ _ HZ1.out.len HZ1.out.lens HZ1.out.rag H.out).mono ?_
  rintro e w2 ⟨rfl, rfl⟩
  go_wp2_with fail
  refine (awake_any _).mono ?_
  rintro e w3 ⟨rfl, hb3⟩
  have HB3 := Lib.hid hb3; clear hb3
  go_wp2_with fail
  go_ret
  exact ⟨rfl, Below.next HB1.out HB3.out⟩
set_option maxRecDepth 100000 in
set_option maxHeartbeats 1000000 in
theorem wrong (p : Option Addr) (n cn : Nat) (z : Mx.MatArg) (w : World) (hz : z.In w p n) (hf : FewP n z.L) (h : ¬ RightP n z.L ∨ n ≠ z.L 0) :
    Calls Try.prog 3 #[.slice p n cn] w fun e w' => e = .returned (.bool true) ∧ Below w.heap.size w w' := by
  have HZ := Lib.hid hz; have H := Lib.hid h; have HF := Lib.hid hf; clear hz h hf
  go_enter Try.func3, Try.ntmps3
  go_wp2_with fail
  refine (awake_any _).mono ?_
  rintro e w1 ⟨rfl, hb1⟩
  have HB1 := Lib.hid hb1; clear hb1
  have HZ1 := Lib.hid (HZ.out.below HB1.out)
  go_wp2_with fail
  refine (few_yes _ _ _ _ _ _ _ HZ1.out.rag HF.out).mono ?_
  rintro e w2 ⟨rfl, rfl⟩
  go_wp2_with fail
  refine (undo_no _ _ _ _ _ _ _ (HZ1.out.few HF.out).1 (HZ1.out.few HF.out).2 HZ1.out.rag H.out).mono ?_
  rintro e w3 ⟨rfl, hb3⟩
  have HB3 := Lib.hid hb3; clear hb3
  go_wp2_with fail
  go_ret
  exact ⟨rfl, Below.next HB1.out HB3.out⟩
set_option maxRecDepth 100000 in
set_option maxHeartbeats 1000000 in
theorem square (P O n cn : Nat) (z : Mx.MatArg) (w : World) (hn : 1 ≤ n) (hn' : n ≤ 32) (hz : z.In w (some ⟨P, O, none⟩) n) (hf : FewP n z.L) (hM : Mat w P O n n z.b z.o z.C z.x) :
    Calls Try.prog 3 #[.slice (some ⟨P, O, none⟩) n cn] w fun e w' => e = .returned (.bool true) ∧ Below w.heap.size w w' := by
  have HZ := Lib.hid hz; have HF := Lib.hid hf; have HM := Lib.hid hM; clear hz hf hM
  go_enter Try.func3, Try.ntmps3
  go_wp2_with fail
  refine (awake_any _).mono ?_
  rintro e w1 ⟨rfl, hb1⟩
  have HB1 := Lib.hid hb1; clear hb1
  have HZ1 := Lib.hid (HZ.out.below HB1.out)
  have HM1 := Lib.hid (HM.out.below HB1.out)
  go_wp2_with fail
  refine (few_yes _ _ _ _ _ _ _ HZ1.out.rag HF.out).mono ?_
  rintro e w2 ⟨rfl, rfl⟩
  go_wp2_with fail
  refine (undo_any _ _ _ _ _ _ _ z.x _ hn hn' HM1.out).mono ?_
  rintro e w3 (⟨y, hy, B, r, rfl, ho, hb⟩ | ⟨hs, rfl, hb⟩)
  · have HY := Lib.hid hy; have HO := Lib.hid ho.mat; have HB3 := Lib.hid hb
    have HM3 := Lib.hid (HM1.out.below HB3.out)
    clear hy ho hb
    go_wp2_with fail
    refine (mul_yes _ _ n n n _ _ _ _ _ _ _ _ _ _ z.x y _ hn hn' hn hn' hn hn' HM3.out HO.out).mono ?_
    rintro e w4 ⟨B4, r4, rfl, ho4, hb4⟩
    have HO4 := Lib.hid ho4.mat; have HB4 := Lib.hid hb4
    clear ho4 hb4
    go_wp2_with fail
    refine (mul_yes _ _ n n n _ _ _ _ _ _ _ _ _ _ y z.x _ hn hn' hn hn' hn hn' (HO.out.below HB4.out) (HM3.out.below HB4.out)).mono ?_
    rintro e w5 ⟨B5, r5, rfl, ho5, hb5⟩
    have HO5 := Lib.hid ho5.mat; have HB5 := Lib.hid hb5
    clear ho5 hb5
    go_wp2_with fail
    refine (isone_yes _ _ _ _ _ _ _ _ _ _ (by omega) (by omega) (HO4.out.below HB5.out) (fun i hi j hj => (HY.out i hi j hj).1)).mono ?_
    rintro e w6 ⟨rfl, rfl⟩
    go_wp2_with fail
    refine (isone_yes _ _ _ _ _ _ _ _ _ _ (by omega) (by omega) HO5.out (fun i hi j hj => (HY.out i hi j hj).2)).mono ?_
    rintro e w7 ⟨rfl, rfl⟩
    go_wp2_with fail
    go_ret
    exact ⟨rfl, Below.next (Below.next (Below.next HB1.out HB3.out) HB4.out) HB5.out⟩
  · have HB3 := Lib.hid hb; clear hb hs
    go_wp2_with fail
    go_ret
    exact ⟨rfl, Below.next HB1.out HB3.out⟩
/-! ### STEP 1: THE WALK: the Go text returns true, AND WRITES NOTHING THAT WAS THERE: 'Below w.heap.size w w'' (Derived/Below.lean: '.refl', '.alloc', '.drew', '.setCell' at a new block, '.trans'). Open each 'IsRow' by 'rcases' AHEAD of 'go_enter'; part every test ahead of the walk. -/
theorem walk (a0 : Option Addr) (len0 cap0 : Nat) (z0 : Mx.MatArg) (w : World) (w0 : z0.In w a0 len0) :
    Calls Try.prog 3 #[.slice a0 len0 cap0] w fun e w' => e = .returned (.bool true) ∧ Below w.heap.size w w' := by
  by_cases hF : FewP len0 z0.L
  · by_cases hR : RightP len0 z0.L ∧ len0 = z0.L 0
    · obtain ⟨hR, hq⟩ := hR
      obtain ⟨B, O, rfl, hM⟩ := w0.mat hR
      rw [← hq] at hM
      exact square B O len0 cap0 z0 w hR.1 hR.2.1 w0 hF hM
    · refine wrong a0 len0 cap0 z0 w w0 hF ?_
      by_cases h : RightP len0 z0.L
      · exact Or.inr fun e => hR ⟨h, e⟩
      · exact Or.inl h
  · exact large a0 len0 cap0 z0 w w0 hF

/-! ### THE ROW's STEP: WRITTEN OUT: LEAVE IT -/
set_option maxRecDepth 100000 in
theorem lifted (os : Os) (started : os.Started) (H : Type) (enc : TypeId × Value → H) :
    ReturnsInHanded {} Try.checked os 3 .any (Rows.rowsUndoSpec.pre6 enc Try.prog Try.f3 Rows.rowsUndoRow.domain false) (Rows.rowsUndoSpec.post enc Try.prog Try.f3 false true false false) := by
  refine returnsInHanded_of_change (C := Try.checked) own started (by kernel_rfl) Try.func3
    (ChangeSpec.witness6 (enc := enc) (C := Try.checked) false ⟨#[], #[.slice none 0 0], []⟩ 8 (by kernel_rfl) (by kernel_rfl) (by kernel_rfl) (by kernel_rfl)) ?_
  intro W base args ds gs before hval0 hW hcnd _
  have hval : ∀ (j : Nat) t v, Try.f3.params[j]? = some t → args[j]? = some v → Value.okWide Try.prog W .any base t v := hval0
  have hW' := hW
  obtain ⟨p, q, hA0, hV, rfl, hfz, hnd⟩ := hW
  have hA : DataW.TrodAll enc Try.prog W 0 (fun _ => true) true Try.f3.params.toList args.toList ds p := hA0
  rw [Try.params3] at hA hval
  obtain ⟨v0, vs0, d0, ds0, p0, q0, hargs, rfl, rfl, h0, r0⟩ := trodAll_cons hA
  obtain ⟨rfl, rfl, rfl⟩ := trodAll_nil r0
  obtain rfl : args = #[v0] := by cases args; simp_all
  obtain ⟨rfl, rfl⟩ := trodVars_none hV
  obtain ⟨a0, len0, cap0, rfl⟩ := okWide_slice Try.underlying22 (hval 0 22 v0 rfl rfl)
  have k0 := h0
  have lt0 : ∀ x ∈ p0, x.block < W.heap.size := by obtain ⟨m, hm⟩ := k0; exact DataW.trod_lt m _ _ _ hm
  obtain ⟨z0, w0⟩ : ∃ z : Mx.MatArg, z.In W a0 len0 := Mx.arg_of h0
  clear hA0 hval0
  refine (walk a0 len0 cap0 z0 W w0).mono fun e W' ⟨he, bel⟩ => ?_
  subst he
  exact ⟨_, rfl, _, _, _, [], _, [], hW', trodAll_mk1 (shut_bool Try.underlying4 _), (trodAll_cons_mk (Below.trod laidOut (by kernel_rfl) (of_decide_eq_true (by kernel_rfl)) k0 bel lt0) trodAll_mk0), rfl, bel.frame _, fun h => by cases h⟩

theorem over : Rows.rowsUndoRow.holds Try.pinned (OpenSpec.ofChange Rows.rowsUndoSpec) :=
  OpenClaim.holds_of_wide 3 Try.f3 rfl rfl rfl rfl rfl rfl rfl ⟨rfl, rfl, rfl, rfl, rfl⟩ rfl rfl rfl rfl rfl (by kernel_rfl) Try.func3 (by kernel_rfl)
    (of_decide_eq_true (by kernel_rfl)) (by unfold Func.isWrapper; first | (rw [if_pos (by decide +kernel)]; kernel_rfl) | (rw [if_neg (by decide +kernel)]; exact ⟨rfl, rfl⟩))
    (fun os started H enc _ => lifted os started H enc)

/-- ████ THE STATEMENT ████ -/
theorem proved : Rows.RowsUndoSaid := over
#print axioms proved
end Go.Proofs.Ytnobpdgicglieaa.rowsUndo
