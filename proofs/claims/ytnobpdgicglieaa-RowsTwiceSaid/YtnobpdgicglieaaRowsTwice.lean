/-
  Proved: for every input the law RowsTwice returns true, and leaves its arguments as they were. No condition.
-/
import Derived.Test.YtnobpdgicglieaaRows
import Derived.WalkKit
import Derived.ProofKit
import Derived.OpenShut
import Derived.ShutString
import Derived.ChangeOld
import Derived.Below
import Derived.Test.YtnobpdgicglieaaMxArg
namespace Go.Proofs.Ytnobpdgicglieaa.rowsTwice
open Go.ChangeShapes Go.WideShapes Go.ChangeAt Go.RowKit
open Go.ChangeMaps (open_string shut_string)
set_option linter.unusedVariables false

theorem own : ownKnob Try.prog.godebug = none := by kernel_rfl
theorem laidOut : laidOutB Try.prog = true := by kernel_rfl

open Go.Proofs.Ytnobpdgicglieaa.Gf Go.Proofs.Ytnobpdgicglieaa.Mx
/-- What Undo answers, whatever the rows. -/
theorem undo_arg (p : Option Addr) (n cn : Nat) (z : Mx.MatArg) (w : World) (h : z.In w p n) (hf : FewP n z.L) :
    Calls Try.prog 12 #[.slice p n cn] w fun e w' => Nope 1 w e w' ∨ ((∃ B O, p = some ⟨B, O, none⟩ ∧ 1 ≤ n ∧ n ≤ 32 ∧ Mat w B O n n z.b z.o z.C z.x) ∧ UndoPost n z.x w e w') := by
  by_cases hR : RightP n z.L ∧ n = z.L 0
  · obtain ⟨hR, hq⟩ := hR
    obtain ⟨B, O, rfl, hM⟩ := h.mat hR
    rw [← hq] at hM
    exact (undo_any B O n cn _ _ _ z.x w hR.1 hR.2.1 hM).mono fun e w' hh => Or.inr ⟨⟨B, O, rfl, hR.1, hR.2.1, hM⟩, hh⟩
  · refine (undo_no p n cn _ _ _ w (h.few hf).1 (h.few hf).2 h.rag ?_).mono fun e w' hh => Or.inl hh
    by_cases h1 : RightP n z.L
    · exact Or.inr fun e => hR ⟨h1, e⟩
    · exact Or.inl h1
set_option maxRecDepth 100000 in
set_option maxHeartbeats 1000000 in
theorem large (p : Option Addr) (n cn k : Nat) (z : Mx.MatArg) (w : World) (hz : z.In w p n) (h : ¬ FewP n z.L) :
    Calls Try.prog 9 #[.slice p n cn, .int .u8 (k : Int)] w fun e w' => e = .returned (.bool true) ∧ Below w.heap.size w w' := by
  have HZ := Lib.hid hz; have H := Lib.hid h; clear hz h
  go_enter Try.func9, Try.ntmps9
  go_wp2_with fail
  refine (awake_any _).mono ?_
  rintro e w1 ⟨rfl, hb1⟩
  have HB1 := Lib.hid hb1; clear hb1
  have HZ1 := Lib.hid (HZ.out.below HB1.out)
  go_wp2_with fail
  refine (few_no _ _ _ _ _ _ _ HZ1.out.len HZ1.out.lens HZ1.out.rag H.out).mono ?_
  rintro e w2 ⟨rfl, rfl⟩
  go_wp2_with fail
  refine (awake_any _).mono ?_
  rintro e w3 ⟨rfl, hb3⟩
  have HB3 := Lib.hid hb3; clear hb3
  go_wp2_with fail
  go_ret
  exact ⟨rfl, Below.next HB1.out HB3.out⟩
set_option maxRecDepth 100000 in
set_option maxHeartbeats 2000000 in
theorem few (p : Option Addr) (n cn k : Nat) (hk : k < 256) (z : Mx.MatArg) (w : World) (hz : z.In w p n) (h : FewP n z.L) :
    Calls Try.prog 9 #[.slice p n cn, .int .u8 (k : Int)] w fun e w' => e = .returned (.bool true) ∧ Below w.heap.size w w' := by
  have HZ := Lib.hid hz; have H := Lib.hid h; clear hz h
  go_enter Try.func9, Try.ntmps9
  go_wp2_with fail
  refine (awake_any _).mono ?_
  rintro e w1 ⟨rfl, hb1⟩
  have HB1 := Lib.hid hb1; clear hb1
  have HZ1 := Lib.hid (HZ.out.below HB1.out)
  go_wp2_with fail
  refine (few_yes _ _ _ _ _ _ _ HZ1.out.rag H.out).mono ?_
  rintro e w2 ⟨rfl, rfl⟩
  go_wp2_with fail
  by_cases hk2 : 1 ≤ k ∧ k ≤ 32
  · obtain ⟨k1, k2⟩ := hk2
    refine (one_yes k k1 k2 _).mono ?_
    rintro e w2 ⟨B2, r2, rfl, ho2, hb2⟩
    have HO2 := Lib.hid ho2.mat; have HB2 := Lib.hid hb2; clear ho2 hb2
    go_wp2_with fail
    refine (undo_any _ _ _ _ _ _ _ one _ k1 k2 HO2.out).mono ?_
    rintro e w3 (⟨y, hy, B3, r3, rfl, ho3, hb3⟩ | ⟨hs, rfl, hb⟩)
    · have HY := Lib.hid hy; have HO3 := Lib.hid ho3.mat; have HB3 := Lib.hid hb3; clear hy ho3 hb3
      go_wp2_with fail
      refine (equal_yes _ _ k k _ _ _ _ _ _ _ _ _ _ _ _ _ (by omega) HO3.out (HO2.out.below HB3.out) (fun i hi j hj => (Inv.unique HY.out.symm (inv_one k) i j hi hj).symm)).mono ?_
      rintro e w4 ⟨rfl, q, hq⟩
      have HBc : Hid (Below w.heap.size w w4) := by rw [hq]; exact below_drewN (Below.next (Below.next HB1.out HB2.out) HB3.out) q
      clear hq
      go_wp2_with fail
      refine (undo_arg _ _ _ _ _ (HZ.out.below HBc.out) H.out).mono ?_
      rintro e w5 (⟨rfl, hb⟩ | ⟨⟨B, O, rfl, n1, n2, hM⟩, ⟨y5, hy5, B5, r5, rfl, ho5, hb5⟩ | ⟨hs, rfl, hb⟩⟩)
      · have HB5 := Lib.hid hb; clear hb
        go_wp2_with fail
        go_ret
        exact ⟨rfl, Below.next HBc.out HB5.out⟩
      · have HM := Lib.hid hM; have HY5 := Lib.hid hy5; have HO5 := Lib.hid ho5.mat; have HB5 := Lib.hid hb5; clear hM hy5 ho5 hb5
        go_wp2_with fail
        refine (undo_any _ _ _ _ _ _ _ y5 _ n1 n2 HO5.out).mono ?_
        rintro e w6 (⟨y6, hy6, B6, r6, rfl, ho6, hb6⟩ | ⟨hs, rfl, hb⟩)
        · have HY6 := Lib.hid hy6; have HO6 := Lib.hid ho6.mat; have HB6 := Lib.hid hb6; clear hy6 ho6 hb6
          go_wp2_with fail
          refine (equal_yes _ _ n n _ _ _ _ _ _ _ _ _ _ _ _ _ (by omega) (HM.out.below (Below.next HB5.out HB6.out)) HO6.out (fun i hi j hj => (Inv.unique HY5.out HY6.out i j hi hj).symm)).mono ?_
          rintro e w7 ⟨rfl, q, hq⟩
          have HB7 : Hid (Below w.heap.size w w7) := by rw [hq]; exact below_drewN (Below.next (Below.next HBc.out HB5.out) HB6.out) q
          clear hq
          go_wp2_with fail
          go_ret
          exact ⟨rfl, HB7.out⟩
        · exact absurd hs HY5.out.symm.not_sing
      · have HB5 := Lib.hid hb; clear hb hs
        go_wp2_with fail
        go_ret
        exact ⟨rfl, Below.next HBc.out HB5.out⟩
    · exact absurd hs (inv_one k).not_sing
  · have HK := Lib.hid hk2; clear hk2
    refine (one_no _ (by have := HK.out; omega) _).mono ?_
    rintro e w2 ⟨rfl, hw2⟩
    have HBc : Hid (Below w.heap.size w w2) := by rw [hw2]; exact HB1.out
    clear hw2
    go_wp2_with fail
    refine (undo_arg _ _ _ _ _ (HZ.out.below HBc.out) H.out).mono ?_
    rintro e w5 (⟨rfl, hb⟩ | ⟨⟨B, O, rfl, n1, n2, hM⟩, ⟨y5, hy5, B5, r5, rfl, ho5, hb5⟩ | ⟨hs, rfl, hb⟩⟩)
    · have HB5 := Lib.hid hb; clear hb
      go_wp2_with fail
      go_ret
      exact ⟨rfl, Below.next HBc.out HB5.out⟩
    · have HM := Lib.hid hM; have HY5 := Lib.hid hy5; have HO5 := Lib.hid ho5.mat; have HB5 := Lib.hid hb5; clear hM hy5 ho5 hb5
      go_wp2_with fail
      refine (undo_any _ _ _ _ _ _ _ y5 _ n1 n2 HO5.out).mono ?_
      rintro e w6 (⟨y6, hy6, B6, r6, rfl, ho6, hb6⟩ | ⟨hs, rfl, hb⟩)
      · have HY6 := Lib.hid hy6; have HO6 := Lib.hid ho6.mat; have HB6 := Lib.hid hb6; clear hy6 ho6 hb6
        go_wp2_with fail
        refine (equal_yes _ _ n n _ _ _ _ _ _ _ _ _ _ _ _ _ (by omega) (HM.out.below (Below.next HB5.out HB6.out)) HO6.out (fun i hi j hj => (Inv.unique HY5.out HY6.out i j hi hj).symm)).mono ?_
        rintro e w7 ⟨rfl, q, hq⟩
        have HB7 : Hid (Below w.heap.size w w7) := by rw [hq]; exact below_drewN (Below.next (Below.next HBc.out HB5.out) HB6.out) q
        clear hq
        go_wp2_with fail
        go_ret
        exact ⟨rfl, HB7.out⟩
      · exact absurd hs HY5.out.symm.not_sing
    · have HB5 := Lib.hid hb; clear hb hs
      go_wp2_with fail
      go_ret
      exact ⟨rfl, Below.next HBc.out HB5.out⟩
/-! ### STEP 1: THE WALK: the Go text returns true, AND WRITES NOTHING THAT WAS THERE: 'Below w.heap.size w w'' (Derived/Below.lean: '.refl', '.alloc', '.drew', '.setCell' at a new block, '.trans'). Open each 'IsRow' by 'rcases' AHEAD of 'go_enter'; part every test ahead of the walk. -/
theorem walk (a0 : Option Addr) (len0 cap0 : Nat) (z0 : Mx.MatArg) (a1 : Int) (w : World) (w0 : z0.In w a0 len0) (w1 : (Lit.int .u8 a1).wf = true) :
    Calls Try.prog 9 #[.slice a0 len0 cap0, .int .u8 a1] w fun e w' => e = .returned (.bool true) ∧ Below w.heap.size w w' := by
  obtain ⟨k, rfl, hk⟩ := u8_nat w1
  by_cases hF : FewP len0 z0.L
  · exact few a0 len0 cap0 k hk z0 w w0 hF
  · exact large a0 len0 cap0 k z0 w w0 hF

/-! ### THE ROW's STEP: WRITTEN OUT: LEAVE IT -/
set_option maxRecDepth 100000 in
theorem lifted (os : Os) (started : os.Started) (H : Type) (enc : TypeId × Value → H) :
    ReturnsInHanded {} Try.checked os 9 .any (Rows.rowsTwiceSpec.pre6 enc Try.prog Try.f9 Rows.rowsTwiceRow.domain false) (Rows.rowsTwiceSpec.post enc Try.prog Try.f9 false true false false) := by
  refine returnsInHanded_of_change (C := Try.checked) own started (by kernel_rfl) Try.func9
    (ChangeSpec.witness6 (enc := enc) (C := Try.checked) false ⟨#[], #[.slice none 0 0, .int .u8 0], []⟩ 8 (by kernel_rfl) (by kernel_rfl) (by kernel_rfl) (by kernel_rfl)) ?_
  intro W base args ds gs before hval0 hW hcnd _
  have hval : ∀ (j : Nat) t v, Try.f9.params[j]? = some t → args[j]? = some v → Value.okWide Try.prog W .any base t v := hval0
  have hW' := hW
  obtain ⟨p, q, hA0, hV, rfl, hfz, hnd⟩ := hW
  have hA : DataW.TrodAll enc Try.prog W 0 (fun _ => true) true Try.f9.params.toList args.toList ds p := hA0
  rw [Try.params9] at hA hval
  obtain ⟨v0, vs0, d0, ds0, p0, q0, hargs, rfl, rfl, h0, r0⟩ := trodAll_cons hA
  obtain ⟨v1, vs1, d1, ds1, p1, q1, rfl, rfl, rfl, h1, r1⟩ := trodAll_cons r0
  obtain ⟨rfl, rfl, rfl⟩ := trodAll_nil r1
  obtain rfl : args = #[v0, v1] := by cases args; simp_all
  obtain ⟨rfl, rfl⟩ := trodVars_none hV
  obtain ⟨a0, len0, cap0, rfl⟩ := okWide_slice Try.underlying22 (hval 0 22 v0 rfl rfl)
  have k0 := h0
  have lt0 : ∀ x ∈ p0, x.block < W.heap.size := by obtain ⟨m, hm⟩ := k0; exact DataW.trod_lt m _ _ _ hm
  obtain ⟨z0, w0⟩ : ∃ z : Mx.MatArg, z.In W a0 len0 := Mx.arg_of h0
  obtain ⟨a1, rfl, rfl, rfl, w1⟩ := open_int Try.underlying5 (hval 1 5 v1 rfl rfl) h1
  clear hA0 hval0
  refine (walk a0 len0 cap0 z0 a1 W w0 w1).mono fun e W' ⟨he, bel⟩ => ?_
  subst he
  exact ⟨_, rfl, _, _, _, [], _, [], hW', trodAll_mk1 (shut_bool Try.underlying4 _), (trodAll_cons_mk (Below.trod laidOut (by kernel_rfl) (of_decide_eq_true (by kernel_rfl)) k0 bel lt0) (trodAll_cons_mk (shut_int Try.underlying5 w1) trodAll_mk0)), rfl, bel.frame _, fun h => by cases h⟩

theorem over : Rows.rowsTwiceRow.holds Try.pinned (OpenSpec.ofChange Rows.rowsTwiceSpec) :=
  OpenClaim.holds_of_wide 9 Try.f9 rfl rfl rfl rfl rfl rfl rfl ⟨rfl, rfl, rfl, rfl, rfl⟩ rfl rfl rfl rfl rfl (by kernel_rfl) Try.func9 (by kernel_rfl)
    (of_decide_eq_true (by kernel_rfl)) (by unfold Func.isWrapper; first | (rw [if_pos (by decide +kernel)]; kernel_rfl) | (rw [if_neg (by decide +kernel)]; exact ⟨rfl, rfl⟩))
    (fun os started H enc _ => lifted os started H enc)

/-- ████ THE STATEMENT ████ -/
theorem proved : Rows.RowsTwiceSaid := over
#print axioms proved
end Go.Proofs.Ytnobpdgicglieaa.rowsTwice
