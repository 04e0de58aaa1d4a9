/-
  Proved: for every input the law RowsSing returns true, and leaves its arguments as they were. No condition.
-/
import Derived.Test.YtnobpdgicglieaaRows
import Derived.WalkKit
import Derived.ProofKit
import Derived.OpenShut
import Derived.ShutString
import Derived.ChangeOld
import Derived.Below
import Derived.Test.YtnobpdgicglieaaMxArg
import Derived.Test.YtnobpdgicglieaaMxRank
namespace Go.Proofs.Ytnobpdgicglieaa.rowsSing
open Go.ChangeShapes Go.WideShapes Go.ChangeAt Go.RowKit
open Go.ChangeMaps (open_string shut_string)
set_option linter.unusedVariables false

theorem own : ownKnob Try.prog.godebug = none := by kernel_rfl
theorem laidOut : laidOutB Try.prog = true := by kernel_rfl

open Go.Proofs.Ytnobpdgicglieaa.Gf Go.Proofs.Ytnobpdgicglieaa.Mx
set_option maxRecDepth 100000 in
set_option maxHeartbeats 1000000 in
theorem large0 (p : Option Addr) (n cn : Nat) (z : Mx.MatArg) (w : World) (hz : z.In w p n) (hf : ¬ FewP n z.L) :
    Calls Try.prog 7 #[.slice p n cn] w fun e w' => e = .returned (.bool true) ∧ Below w.heap.size w w' := by
  have HZ := Lib.hid hz; clear hz
  have HF := Lib.hid hf; clear hf
  go_enter Try.func7, Try.ntmps7
  go_wp2_with fail
  refine (awake_any _).mono ?_
  rintro e w1 ⟨rfl, hb1⟩
  have HB1 := Lib.hid hb1; clear hb1
  have HZ1 := Lib.hid (HZ.out.below HB1.out)
  go_wp2_with fail
  refine (few_no _ _ _ _ _ _ _ HZ1.out.len HZ1.out.lens HZ1.out.rag HF.out).mono ?_
  rintro e w2 ⟨rfl, rfl⟩
  go_wp2_with fail
  refine (awake_any _).mono ?_
  rintro e w3 ⟨rfl, hb3⟩
  have HB3 := Lib.hid hb3; clear hb3
  go_wp2_with fail
  go_ret
  exact ⟨rfl, Below.next HB1.out HB3.out⟩
set_option maxRecDepth 100000 in
set_option maxHeartbeats 1000000 in
theorem large1 (p : Option Addr) (n cn : Nat) (z : Mx.MatArg) (w : World) (hz : z.In w p n) (hf : FewP n z.L) (hs : ¬ SmallP n z.L) :
    Calls Try.prog 7 #[.slice p n cn] w fun e w' => e = .returned (.bool true) ∧ Below w.heap.size w w' := by
  have HZ := Lib.hid hz; clear hz
  have HF := Lib.hid hf; have HS := Lib.hid hs; clear hf hs
  go_enter Try.func7, Try.ntmps7
  go_wp2_with fail
  refine (awake_any _).mono ?_
  rintro e w1 ⟨rfl, hb1⟩
  have HB1 := Lib.hid hb1; clear hb1
  have HZ1 := Lib.hid (HZ.out.below HB1.out)
  go_wp2_with fail
  refine (few_yes _ _ _ _ _ _ _ HZ1.out.rag HF.out).mono ?_
  rintro e w2 ⟨rfl, rfl⟩
  go_wp2_with fail
  refine (small_no _ _ _ _ _ _ _ (HZ1.out.few HF.out).1 (HZ1.out.few HF.out).2 HZ1.out.rag HS.out).mono ?_
  rintro e w2 ⟨rfl, rfl⟩
  go_wp2_with fail
  refine (awake_any _).mono ?_
  rintro e w3 ⟨rfl, hb3⟩
  have HB3 := Lib.hid hb3; clear hb3
  go_wp2_with fail
  go_ret
  exact ⟨rfl, Below.next HB1.out HB3.out⟩
set_option maxRecDepth 100000 in
set_option maxHeartbeats 1000000 in
theorem wrong (p : Option Addr) (n cn : Nat) (z : Mx.MatArg) (w : World) (hz : z.In w p n) (hf : FewP n z.L) (hs : SmallP n z.L) (hR : ¬ RightP n z.L) :
    Calls Try.prog 7 #[.slice p n cn] w fun e w' => e = .returned (.bool true) ∧ Below w.heap.size w w' := by
  have HZ := Lib.hid hz; clear hz
  have HF := Lib.hid hf; have HS := Lib.hid hs; have HR := Lib.hid hR; have HU : Hid (¬ RightP n z.L ∨ n ≠ z.L 0) := Or.inl hR; clear hf hs hR
  go_enter Try.func7, Try.ntmps7
  go_wp2_with fail
  refine (awake_any _).mono ?_
  rintro e w1 ⟨rfl, hb1⟩
  have HB1 := Lib.hid hb1; clear hb1
  have HZ1 := Lib.hid (HZ.out.below HB1.out)
  go_wp2_with fail
  refine (few_yes _ _ _ _ _ _ _ HZ1.out.rag HF.out).mono ?_
  rintro e w2 ⟨rfl, rfl⟩
  go_wp2_with fail
  refine (small_yes _ _ _ _ _ _ _ HZ1.out.rag HS.out).mono ?_
  rintro e w2 ⟨rfl, rfl⟩
  go_wp2_with fail
  refine (undo_no _ _ _ _ _ _ _ (HZ1.out.few HF.out).1 (HZ1.out.few HF.out).2 HZ1.out.rag HU.out).mono ?_
  rintro e w3 ⟨rfl, hb3⟩
  have HB3 := Lib.hid (Below.next HB1.out hb3); clear hb3
  have HZ3 := Lib.hid (HZ.out.below HB3.out)
  go_wp2_with fail
  refine (rright_no _ _ _ _ _ _ _ (HZ1.out.few HF.out).1 (HZ1.out.few HF.out).2 HZ3.out.rag HR.out).mono ?_
  rintro e w4 ⟨rfl, q4, hq4⟩
  have HB4 : Hid (Below w.heap.size w w4) := by rw [hq4]; exact below_drewN HB3.out q4
  clear hq4
  go_wp2_with fail
  go_ret
  exact ⟨rfl, HB4.out⟩
set_option maxRecDepth 100000 in
set_option maxHeartbeats 1000000 in
theorem oblong (P O n cn : Nat) (z : Mx.MatArg) (w : World) (hz : z.In w (some ⟨P, O, none⟩) n) (hf : FewP n z.L) (hs : SmallP n z.L) (hR : RightP n z.L) (hN : n ≠ z.L 0) :
    Calls Try.prog 7 #[.slice (some ⟨P, O, none⟩) n cn] w fun e w' => e = .returned (.bool true) ∧ Below w.heap.size w w' := by
  have HZ := Lib.hid hz; clear hz
  have HF := Lib.hid hf; have HS := Lib.hid hs; have HR := Lib.hid hR; have HN := Lib.hid hN; have HU : Hid (¬ RightP n z.L ∨ n ≠ z.L 0) := Or.inr hN; clear hf hs hR hN
  go_enter Try.func7, Try.ntmps7
  go_wp2_with fail
  refine (awake_any _).mono ?_
  rintro e w1 ⟨rfl, hb1⟩
  have HB1 := Lib.hid hb1; clear hb1
  have HZ1 := Lib.hid (HZ.out.below HB1.out)
  go_wp2_with fail
  refine (few_yes _ _ _ _ _ _ _ HZ1.out.rag HF.out).mono ?_
  rintro e w2 ⟨rfl, rfl⟩
  go_wp2_with fail
  refine (small_yes _ _ _ _ _ _ _ HZ1.out.rag HS.out).mono ?_
  rintro e w2 ⟨rfl, rfl⟩
  go_wp2_with fail
  refine (undo_no _ _ _ _ _ _ _ (HZ1.out.few HF.out).1 (HZ1.out.few HF.out).2 HZ1.out.rag HU.out).mono ?_
  rintro e w3 ⟨rfl, hb3⟩
  have HB3 := Lib.hid (Below.next HB1.out hb3); clear hb3
  have HZ3 := Lib.hid (HZ.out.below HB3.out)
  go_wp2_with fail
  refine (rright_yes _ _ _ _ _ _ _ HZ3.out.rag HR.out).mono ?_
  rintro e w4 ⟨rfl, q4, hq4⟩
  have HB4 : Hid (Below w.heap.size w w4) := by rw [hq4]; exact below_drewN HB3.out q4
  clear hq4
  have ca0 : w4.cell? ⟨P, O, none⟩ = some (.slice (z.A 0) (z.L 0) (z.C 0)) := by
    obtain ⟨P', O', e, hc⟩ := (HZ.out.below HB4.out).rag (by have := HR.out.1; omega)
    injection e with e
    injection e with e1 e2
    subst e1; subst e2
    simpa using hc 0 (by have := HR.out.1; omega)
  have nn0 : (0 : Int) < (n : Int) := by have := HR.out.1; omega
  have nn1 : n ≤ 32 := HR.out.2.1
  have l32 : z.L 0 ≤ 32 := HR.out.2.2.2.1
  have t1 : ((n : Int) != (z.L 0 : Int)) = true := by have := HN.out; simp; omega
  have t1' : (n != z.L 0) = true := by have := HN.out; simpa using this
  generalize z.L 0 = l at ca0 t1 t1' l32
  go_wp2_with fail
  go_ret
  exact ⟨rfl, HB4.out⟩
set_option maxRecDepth 100000 in
set_option maxHeartbeats 1000000 in
theorem square (P O n cn : Nat) (z : Mx.MatArg) (w : World) (hz : z.In w (some ⟨P, O, none⟩) n) (hf : FewP n z.L) (hs : SmallP n z.L) (hR : RightP n z.L) (hn : 1 ≤ n) (hn' : n ≤ 32) (hM : Mat w P O n n z.b z.o z.C z.x) :
    Calls Try.prog 7 #[.slice (some ⟨P, O, none⟩) n cn] w fun e w' => e = .returned (.bool true) ∧ Below w.heap.size w w' := by
  have HZ := Lib.hid hz; clear hz
  have HF := Lib.hid hf; have HS := Lib.hid hs; have HR := Lib.hid hR; have HM := Lib.hid hM; clear hf hs hR hM
  go_enter Try.func7, Try.ntmps7
  go_wp2_with fail
  refine (awake_any _).mono ?_
  rintro e w1 ⟨rfl, hb1⟩
  have HB1 := Lib.hid hb1; clear hb1
  have HZ1 := Lib.hid (HZ.out.below HB1.out)
  go_wp2_with fail
  refine (few_yes _ _ _ _ _ _ _ HZ1.out.rag HF.out).mono ?_
  rintro e w2 ⟨rfl, rfl⟩
  go_wp2_with fail
  refine (small_yes _ _ _ _ _ _ _ HZ1.out.rag HS.out).mono ?_
  rintro e w2 ⟨rfl, rfl⟩
  go_wp2_with fail
  refine (undo_any _ _ n _ _ _ _ z.x _ hn hn' (HM.out.below HB1.out)).mono ?_
  rintro e w3 (⟨y, hy, B3, r3, rfl, ho3, hb3⟩ | ⟨hsg, rfl, hb3⟩)
  · have HY := Lib.hid hy; have HB3 := Lib.hid (Below.next HB1.out hb3); clear hy ho3 hb3
    go_wp2_with fail
    refine (rright_yes _ _ _ _ _ _ _ (HZ.out.below HB3.out).rag HR.out).mono ?_
    rintro e w4 ⟨rfl, q4, hq4⟩
    have HB4 : Hid (Below w.heap.size w w4) := by rw [hq4]; exact below_drewN HB3.out q4
    clear hq4
    have ca0 := (HM.out.below HB4.out).top0 (by omega)
    have nn0 : (0 : Int) < (n : Int) := by omega
    have t1 : ((n : Int) != (n : Int)) = false := by simp
    go_wp2_with fail
    refine (rank_any _ _ n _ _ _ _ z.x _ hn (by omega) (HM.out.below HB4.out)).mono ?_
    rintro e w5 ⟨k, hk, hfull, hless, rfl, hb5⟩
    have HB5 := Lib.hid (Below.next HB4.out hb5); clear hb5
    have hkn : k = n := by
      rcases Nat.lt_or_ge k n with h | h
      · exact absurd (hless h) HY.out.not_sing
      · omega
    subst hkn
    clear hfull hless
    go_wp2_with fail
    go_ret
    exact ⟨rfl, HB5.out⟩
  · have HSg := Lib.hid hsg; have HB3 := Lib.hid (Below.next HB1.out hb3); clear hsg hb3
    go_wp2_with fail
    refine (rright_yes _ _ _ _ _ _ _ (HZ.out.below HB3.out).rag HR.out).mono ?_
    rintro e w4 ⟨rfl, q4, hq4⟩
    have HB4 : Hid (Below w.heap.size w w4) := by rw [hq4]; exact below_drewN HB3.out q4
    clear hq4
    have ca0 := (HM.out.below HB4.out).top0 (by omega)
    have nn0 : (0 : Int) < (n : Int) := by omega
    have t1 : ((n : Int) != (n : Int)) = false := by simp
    go_wp2_with fail
    refine (rank_any _ _ n _ _ _ _ z.x _ hn (by omega) (HM.out.below HB4.out)).mono ?_
    rintro e w5 ⟨k, hk, hfull, hless, rfl, hb5⟩
    have HB5 := Lib.hid (Below.next HB4.out hb5); clear hb5
    have hkn : k ≠ n := fun e => hfull e HSg.out
    have t2 : ((k : Int) == (n : Int)) = false := by simp; omega
    have t2' : (k == n) = false := by simpa using hkn
    clear hfull hless hkn
    go_wp2_with fail
    go_ret
    exact ⟨rfl, HB5.out⟩
/-! ### STEP 1: THE WALK: the Go text returns true, AND WRITES NOTHING THAT WAS THERE: 'Below w.heap.size w w'' (Derived/Below.lean: '.refl', '.alloc', '.drew', '.setCell' at a new block, '.trans'). Open each 'IsRow' by 'rcases' AHEAD of 'go_enter'; part every test ahead of the walk. -/
theorem walk (a0 : Option Addr) (len0 cap0 : Nat) (z0 : Mx.MatArg) (w : World) (w0 : z0.In w a0 len0) :
    Calls Try.prog 7 #[.slice a0 len0 cap0] w fun e w' => e = .returned (.bool true) ∧ Below w.heap.size w w' := by
  by_cases hf : FewP len0 z0.L
  · by_cases hs : SmallP len0 z0.L
    · by_cases hR : RightP len0 z0.L
      · obtain ⟨B, O, rfl, hM⟩ := w0.mat hR
        by_cases hN : len0 = z0.L 0
        · rw [← hN] at hM
          exact square B O len0 cap0 z0 w w0 hf hs hR hR.1 hR.2.1 hM
        · exact oblong B O len0 cap0 z0 w w0 hf hs hR hN
      · exact wrong a0 len0 cap0 z0 w w0 hf hs hR
    · exact large1 a0 len0 cap0 z0 w w0 hf hs
  · exact large0 a0 len0 cap0 z0 w w0 hf

/-! ### THE ROW's STEP: WRITTEN OUT: LEAVE IT -/
set_option maxRecDepth 100000 in
theorem lifted (os : Os) (started : os.Started) (H : Type) (enc : TypeId × Value → H) :
    ReturnsInHanded {} Try.checked os 7 .any (Rows.rowsSingSpec.pre6 enc Try.prog Try.f7 Rows.rowsSingRow.domain false) (Rows.rowsSingSpec.post enc Try.prog Try.f7 false true false false) := by
  refine returnsInHanded_of_change (C := Try.checked) own started (by kernel_rfl) Try.func7
    (ChangeSpec.witness6 (enc := enc) (C := Try.checked) false ⟨#[], #[.slice none 0 0], []⟩ 8 (by kernel_rfl) (by kernel_rfl) (by kernel_rfl) (by kernel_rfl)) ?_
  intro W base args ds gs before hval0 hW hcnd _
  have hval : ∀ (j : Nat) t v, Try.f7.params[j]? = some t → args[j]? = some v → Value.okWide Try.prog W .any base t v := hval0
  have hW' := hW
  obtain ⟨p, q, hA0, hV, rfl, hfz, hnd⟩ := hW
  have hA : DataW.TrodAll enc Try.prog W 0 (fun _ => true) true Try.f7.params.toList args.toList ds p := hA0
  rw [Try.params7] at hA hval
  obtain ⟨v0, vs0, d0, ds0, p0, q0, hargs, rfl, rfl, h0, r0⟩ := trodAll_cons hA
  obtain ⟨rfl, rfl, rfl⟩ := trodAll_nil r0
  obtain rfl : args = #[v0] := by cases args; simp_all
  obtain ⟨rfl, rfl⟩ := trodVars_none hV
  obtain ⟨a0, len0, cap0, rfl⟩ := okWide_slice Try.underlying22 (hval 0 22 v0 rfl rfl)
  have k0 := h0
  have lt0 : ∀ x ∈ p0, x.block < W.heap.size := by obtain ⟨m, hm⟩ := k0; exact DataW.trod_lt m _ _ _ hm
  obtain ⟨z0, w0⟩ : ∃ z : Mx.MatArg, z.In W a0 len0 := Mx.arg_of h0
  clear hA0 hval0
  refine (walk a0 len0 cap0 z0 W w0).mono fun e W' ⟨he, bel⟩ => ?_
  subst he
  exact ⟨_, rfl, _, _, _, [], _, [], hW', trodAll_mk1 (shut_bool Try.underlying4 _), (trodAll_cons_mk (Below.trod laidOut (by kernel_rfl) (of_decide_eq_true (by kernel_rfl)) k0 bel lt0) trodAll_mk0), rfl, bel.frame _, fun h => by cases h⟩

theorem over : Rows.rowsSingRow.holds Try.pinned (OpenSpec.ofChange Rows.rowsSingSpec) :=
  OpenClaim.holds_of_wide 7 Try.f7 rfl rfl rfl rfl rfl rfl rfl ⟨rfl, rfl, rfl, rfl, rfl⟩ rfl rfl rfl rfl rfl (by kernel_rfl) Try.func7 (by kernel_rfl)
    (of_decide_eq_true (by kernel_rfl)) (by unfold Func.isWrapper; first | (rw [if_pos (by decide +kernel)]; kernel_rfl) | (rw [if_neg (by decide +kernel)]; exact ⟨rfl, rfl⟩))
    (fun os started H enc _ => lifted os started H enc)

/-- ████ THE STATEMENT ████ -/
theorem proved : Rows.RowsSingSaid := over
#print axioms proved
end Go.Proofs.Ytnobpdgicglieaa.rowsSing
