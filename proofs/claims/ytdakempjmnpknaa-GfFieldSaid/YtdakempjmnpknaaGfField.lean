/-
  Proved: for every input the law GfField returns true, and leaves its arguments as they were. No condition.
-/
import Derived.Test.YtdakempjmnpknaaRows
import Derived.WalkKit
import Derived.ProofKit
import Derived.OpenShut
import Derived.ShutString
import Derived.Test.YtdakempjmnpknaaGfAwake
namespace Go.Proofs.Ytdakempjmnpknaa.gfField
open Go.ChangeShapes Go.WideShapes Go.ChangeAt Go.RowKit
open Go.ChangeMaps (open_string shut_string)
set_option linter.unusedVariables false      -- a walk need not use every 'w<i>' (that an integer argument fits its kind)

theorem own : ownKnob Try.prog.godebug = none := by kernel_rfl

open Go.Proofs.Ytdakempjmnpknaa.Gf
set_option maxHeartbeats 1000000 in
theorem head (a b c : Nat) (ha : a < 256) (hb : b < 256) (hc : c < 256) (w : World) :
    Calls Try.prog 3 #[.int .u8 (a : Int), .int .u8 (b : Int), .int .u8 (c : Int)] w fun e w' => e = .returned (.bool true) ∧ Grown w w' := by
  have HF := Lib.hid (fresh_old (fresh_F w) (show w.heap.size < (fresh w).heap.size from by simp [fresh]))
  have hbc := xor_lt hb hc
  have l1 := gm_lt b c
  have l2 := gm_lt a b
  have l3 := gm_lt a c
  have ld := gd_lt a b
  have G1 := Lib.hid (gm_comm b a)
  have G2 := Lib.hid (gm_assoc a b c)
  have G3 := Lib.hid (gm_add a b c ha hb hc)
  have G4 := Lib.hid (gm_one a ha)
  have G5 := Lib.hid (fun h => gd_gm a b ha hb h)
  have GG := Lib.hid (grown_trans (fresh_grown w) (fresh_grown (fresh w)))
  go_enter Try.func3, Try.ntmps3
  go_wp2_with fail
  refine (new_fresh _).mono ?_
  rintro e w' ⟨rfl, rfl⟩
  go_wp2_with fail
  refine (awake_any _).mono ?_
  rintro e w' ⟨rfl, m1, rfl⟩
  go_wp2_with fail
  refine (addN a a ha ha _).mono ?_
  rintro e w' ⟨rfl, rfl⟩
  rw [Nat.xor_self]
  go_wp2_with fail
  refine (mulN _ a b ha hb _ (HF.out.drewN _)).mono ?_
  rintro e w' ⟨rfl, m2, rfl⟩
  go_wp2_with fail
  refine (mulN _ b a hb ha _ (HF.out.drewN _)).mono ?_
  rintro e w' ⟨rfl, m3, rfl⟩
  rw [G1.out]
  go_wp2_with fail
  refine (mulN _ b c hb hc _ (HF.out.drewN _)).mono ?_
  rintro e w' ⟨rfl, m4, rfl⟩
  go_wp2_with fail
  refine (mulN _ a (gm b c) ha l1 _ (HF.out.drewN _)).mono ?_
  rintro e w' ⟨rfl, m5, rfl⟩
  rw [G2.out]
  go_wp2_with fail
  refine (mulN _ a b ha hb _ (HF.out.drewN _)).mono ?_
  rintro e w' ⟨rfl, m6, rfl⟩
  go_wp2_with fail
  refine (mulN _ (gm a b) c l2 hc _ (HF.out.drewN _)).mono ?_
  rintro e w' ⟨rfl, m7, rfl⟩
  go_wp2_with fail
  refine (addN b c hb hc _).mono ?_
  rintro e w' ⟨rfl, rfl⟩
  go_wp2_with fail
  refine (mulN _ a (b ^^^ c) ha hbc _ (HF.out.drewN _)).mono ?_
  rintro e w' ⟨rfl, m8, rfl⟩
  rw [G3.out]
  go_wp2_with fail
  refine (mulN _ a b ha hb _ (HF.out.drewN _)).mono ?_
  rintro e w' ⟨rfl, m9, rfl⟩
  go_wp2_with fail
  refine (mulN _ a c ha hc _ (HF.out.drewN _)).mono ?_
  rintro e w' ⟨rfl, m10, rfl⟩
  go_wp2_with fail
  refine (addN (gm a b) (gm a c) l2 l3 _).mono ?_
  rintro e w' ⟨rfl, rfl⟩
  go_wp2_with fail
  refine (mulN _ a 1 ha (by omega) _ (HF.out.drewN _)).mono ?_
  rintro e w' ⟨rfl, m11, rfl⟩
  rw [G4.out]
  go_wp2_with fail
  by_cases h0 : b = 0
  · have hb0 : ((b : Int) != 0) = false := by simp; omega
    refine (divZ _ a b h0 _).mono ?_
    rintro e w' ⟨rfl, rfl⟩
    clear h0
    go_wp2_with fail
    go_ret
    exact ⟨rfl, grown_drewN GG.out _⟩
  · have hb0 : ((b : Int) != 0) = true := by simp; omega
    refine (divN _ a b ha h0 hb _ (HF.out.drewN _)).mono ?_
    rintro e w' ⟨rfl, m12, rfl⟩
    go_wp2_with fail
    refine (mulN _ (gd a b) b ld hb _ (HF.out.drewN _)).mono ?_
    rintro e w' ⟨rfl, m13, rfl⟩
    rw [G5.out h0]
    go_wp2_with fail
    go_ret
    exact ⟨rfl, grown_drewN GG.out _⟩
/-! ### STEP 1: THE WALK: the Go text returns true. 'Grown w w'': the world has at most new blocks (Derived/RowKit3.lean). Part the cases AHEAD of 'go_enter' where a test parts the walk; take each callee by a contract of your own. -/
theorem walk (a0 : Int) (a1 : Int) (a2 : Int) (w0 : (Lit.int .u8 a0).wf = true) (w1 : (Lit.int .u8 a1).wf = true) (w2 : (Lit.int .u8 a2).wf = true) (w : World) :
    Calls Try.prog 3 #[.int .u8 a0, .int .u8 a1, .int .u8 a2] w fun e w' => e = .returned (.bool true) ∧ Grown w w' := by
  obtain ⟨a, rfl, ha⟩ := u8_nat w0
  obtain ⟨b, rfl, hb⟩ := u8_nat w1
  obtain ⟨c, rfl, hc⟩ := u8_nat w2
  exact head a b c ha hb hc w

/-! ### THE ROW's STEP: WRITTEN OUT: LEAVE IT -/
set_option maxRecDepth 100000 in
theorem lifted (os : Os) (started : os.Started) (H : Type) (enc : TypeId × Value → H) :
    ReturnsInHanded {} Try.checked os 3 .any (Rows.gfFieldSpec.pre6 enc Try.prog Try.f3 Rows.gfFieldRow.domain false) (Rows.gfFieldSpec.post enc Try.prog Try.f3 false true false false) := by
  refine returnsInHanded_of_change (C := Try.checked) own started (by kernel_rfl) Try.func3
    (ChangeSpec.witness6 (enc := enc) (C := Try.checked) false ⟨#[], #[.int .u8 0, .int .u8 0, .int .u8 0], []⟩ 8 (by kernel_rfl) (by kernel_rfl) (by kernel_rfl) (by kernel_rfl)) ?_
  intro W base args ds gs before hval0 hW hcnd _
  have hval : ∀ (j : Nat) t v, Try.f3.params[j]? = some t → args[j]? = some v → Value.okWide Try.prog W .any base t v := hval0
  have hW' := hW
  obtain ⟨p, q, hA0, hV, rfl, hfz, hnd⟩ := hW
  have hA : DataW.TrodAll enc Try.prog W 0 (fun _ => true) true Try.f3.params.toList args.toList ds p := hA0
  rw [Try.params3] at hA hval
  obtain ⟨v0, vs0, d0, ds0, p0, q0, hargs, rfl, rfl, h0, r0⟩ := trodAll_cons hA
  obtain ⟨v1, vs1, d1, ds1, p1, q1, rfl, rfl, rfl, h1, r1⟩ := trodAll_cons r0
  obtain ⟨v2, vs2, d2, ds2, p2, q2, rfl, rfl, rfl, h2, r2⟩ := trodAll_cons r1
  obtain ⟨rfl, rfl, rfl⟩ := trodAll_nil r2
  obtain rfl : args = #[v0, v1, v2] := by cases args; simp_all
  obtain ⟨rfl, rfl⟩ := trodVars_none hV
  obtain ⟨a0, rfl, rfl, rfl, w0⟩ := open_int Try.underlying5 (hval 0 5 v0 rfl rfl) h0
  obtain ⟨a1, rfl, rfl, rfl, w1⟩ := open_int Try.underlying5 (hval 1 5 v1 rfl rfl) h1
  obtain ⟨a2, rfl, rfl, rfl, w2⟩ := open_int Try.underlying5 (hval 2 5 v2 rfl rfl) h2
  clear hA0 hval0
  simp only [List.append_nil] at hW'
  refine (walk a0 a1 a2 w0 w1 w2 W).mono fun e W' ⟨he, hg⟩ => ?_
  subst he
  exact ⟨_, rfl, post_of_same (pa := []) (pv := []) hW' (fun _ _ _ => (trodAll_cons_mk (shut_bool Try.underlying4 _) trodAll_mk0)) (fun sp _ => (trodAll_cons_mk (shut_int Try.underlying5 w0) (trodAll_cons_mk (shut_int Try.underlying5 w1) (trodAll_cons_mk (shut_int Try.underlying5 w2) trodAll_mk0)))) (fun _ _ => rfl) rfl
    (hg.frame _) hg.2.1 (ok_one (by kernel_rfl) rfl (okWide_bool_mk Try.underlying4 _))⟩

theorem over : Rows.gfFieldRow.holds Try.pinned (OpenSpec.ofChange Rows.gfFieldSpec) :=
  OpenClaim.holds_of_wide 3 Try.f3 rfl rfl rfl rfl rfl rfl rfl ⟨rfl, rfl, rfl, rfl, rfl⟩ rfl rfl rfl rfl rfl (by kernel_rfl) Try.func3 (by kernel_rfl)
    (of_decide_eq_true (by kernel_rfl)) (by unfold Func.isWrapper; first | (rw [if_pos (by decide +kernel)]; kernel_rfl) | (rw [if_neg (by decide +kernel)]; exact ⟨rfl, rfl⟩))
    (fun os started H enc _ => lifted os started H enc)

/-- ████ THE STATEMENT ████ -/
theorem proved : Rows.GfFieldSaid :=
  over
#print axioms proved
end Go.Proofs.Ytdakempjmnpknaa.gfField
