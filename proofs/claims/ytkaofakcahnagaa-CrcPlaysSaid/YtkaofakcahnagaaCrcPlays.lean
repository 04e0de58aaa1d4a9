/-
  Proved: for every input the law CrcPlays returns true, and leaves its arguments as they were. No condition.
-/
import Derived.Test.YtkaofakcahnagaaRows
import Derived.WalkKit
import Derived.ProofKit
import Derived.OpenShut
import Derived.ShutString
import Derived.Test.YtkaofakcahnagaaCrLaws
namespace Go.Proofs.Ytkaofakcahnagaa.crcPlays
open Go.ChangeShapes Go.WideShapes Go.ChangeAt Go.RowKit
open Go.ChangeMaps (open_string shut_string)
set_option linter.unusedVariables false      -- a walk need not use every 'w<i>' (that an integer argument fits its kind)

theorem own : ownKnob Try.prog.godebug = none := by kernel_rfl

open Go.Proofs.Ytkaofakcahnagaa.Cr Go.Proofs.Ytkaofakcahnagaa.Ov
set_option maxHeartbeats 1000000 in
theorem large (s t : ByteArray) (a : Int) (w : World) (h : 3000 < s.size ∨ 3000 < t.size) (hm : s.size ≤ 9223372036854775807) (hn : t.size ≤ 9223372036854775807) :
    Calls Try.prog 5 #[.string s, .string t, .int .u8 a] w fun e w' => e = .returned (.bool true) ∧ Below w.heap.size w w' := by
  by_cases hs : 3000 < s.size
  · clear h
    go_enter Try.func5, Try.ntmps5
    go_wp2_with fail
    refine (awake_any _).mono ?_
    rintro e w1 ⟨rfl, hb⟩
    have HB := Lib.hid hb; clear hb
    go_wp2_with fail
    refine (awake_any _).mono ?_
    rintro e w2 ⟨rfl, hb2⟩
    have HB2 := Lib.hid (Below.next HB.out hb2); clear hb2
    go_wp2_with fail
    go_ret
    exact ⟨rfl, HB2.out⟩
  · have ht : 3000 < t.size := by omega
    clear h
    go_enter Try.func5, Try.ntmps5
    go_wp2_with fail
    refine (awake_any _).mono ?_
    rintro e w1 ⟨rfl, hb⟩
    have HB := Lib.hid hb; clear hb
    go_wp2_with fail
    refine (awake_any _).mono ?_
    rintro e w2 ⟨rfl, hb2⟩
    have HB2 := Lib.hid (Below.next HB.out hb2); clear hb2
    go_wp2_with fail
    go_ret
    exact ⟨rfl, HB2.out⟩
theorem more_is {s t : ByteArray} {m : Nat} (h : m = sm (s ++ t).data.toList) (w : World) (ht : t.size ≤ 1000000) :
    Calls Try.prog 13 #[.int .u32 (sm s.data.toList : Nat), .string t] w fun e w' => e = .returned (.int .u32 (m : Nat)) ∧ Below w.heap.size w w' := by rw [h]; exact more_sum s t w ht
theorem rsum_is {t : ByteArray} {m : Nat} (h : m = sm t.data.toList) (w : World) (ht : t.size ≤ 1000000) :
    Calls Try.prog 12 #[.string t] w fun e w' => e = .returned (.int .i64 (m : Nat)) ∧ w' = w := by rw [h]; exact rsum_any t w ht
theorem table_is {T : Array Value} (h : T = TA (hs 8)) (w : World) :
    Calls Try.prog 14 #[] w fun e w' => e = .returned (.agg T) ∧ Below w.heap.size w w' := by rw [h]; exact table_any w
set_option maxRecDepth 100000 in
set_option maxHeartbeats 2000000 in
theorem small (s t : ByteArray) (a : Nat) (w : World) (h : s.size ≤ 3000) (h2 : t.size ≤ 3000) (ha : a < 256) :
    Calls Try.prog 5 #[.string s, .string t, .int .u8 (a : Int)] w fun e w' => e = .returned (.bool true) ∧ Below w.heap.size w w' := by
  have hz' : ¬ s.size + t.size > 9223372036854775807 := by omega
  obtain ⟨T, hT⟩ : ∃ T, T = TA (hs 8) := ⟨_, rfl⟩
  have hi : ∀ w, (Instr.index 35 (.agg T) (.int .u8 (a : Int))).run Try.prog w = .ok (.int .u32 (hs 8 a : Nat)) w := by rw [hT]; exact index_TA a ha
  have HT := Lib.hid hT; clear hT
  have l1 := sm_lt s.data.toList
  obtain ⟨m, hm⟩ : ∃ m, m = sm (s ++ t).data.toList := ⟨_, rfl⟩
  have l2 : m < 4294967296 := by rw [hm]; exact sm_lt _
  have HM := Lib.hid hm; clear hm
  have l3 := hs_lt 8 (show a < 4294967296 by omega)
  have hst : (s ++ t).size ≤ 1000000 := by rw [ByteArray.size_append]; omega
  have HST := Lib.hid hst; clear hst
  have HS : Hid (s.size ≤ 1000000) := by show _ ≤ _; omega
  go_enter Try.func5, Try.ntmps5
  go_wp2_with fail
  refine (awake_any _).mono ?_
  rintro e w1 ⟨rfl, hb⟩
  have HB1 := Lib.hid hb; clear hb
  go_wp2_with fail
  refine wp_over (by kernel_rfl) (by kernel_rfl) ?_
  repeat (go_big_quiet_step (first
    | (go_at_call 13; exact over_make _ (more_is HM.out _ (by omega)))
    | (go_at_call 11; exact over_make _ (sum_any s _ (by omega)))
    | (go_at_call 14; exact over_make _ (table_is HT.out _))
    | (go_at_call 12; first | with_reducible exact over_same _ (rsum_any s _ HS.out) | with_reducible exact over_same _ (rsum_is HM.out _ HST.out))
    | (go_at_call 15; exact over_same _ (steps_any a _ (by omega)))))
  refine wpQuiet_nil ?_
  rintro wq ⟨⟨w6, hb⟩, hw⟩
  obtain rfl : w6 = wq := hw.symm
  have HB6 : Hid (Below w.heap.size w w6) := Below.next HB1.out hb
  clear hb hw
  go_wp2_with fail
  go_ret
  exact ⟨rfl, HB6.out⟩
/-! ### STEP 1: THE WALK: the Go text returns true. 'Grown w w'': the world has at most new blocks (Derived/RowKit3.lean). Part the cases AHEAD of 'go_enter' where a test parts the walk; take each callee by a contract of your own. -/
theorem walk (a0 : ByteArray) (a1 : ByteArray) (a2 : Int) (w0 : a0.size ≤ maxLen) (w1 : a1.size ≤ maxLen) (w2 : (Lit.int .u8 a2).wf = true) (w : World) :
    Calls Try.prog 5 #[.string a0, .string a1, .int .u8 a2] w fun e w' => e = .returned (.bool true) ∧ Below w.heap.size w w' := by
  unfold maxLen at w0 w1
  obtain ⟨k, rfl, hk⟩ := u8_bd w2
  by_cases h : 3000 < a0.size ∨ 3000 < a1.size
  · exact large a0 a1 k w h (by omega) (by omega)
  · exact small a0 a1 k w (by omega) (by omega) hk

/-! ### THE ROW's STEP: WRITTEN OUT: LEAVE IT -/
set_option maxRecDepth 100000 in
theorem lifted (os : Os) (started : os.Started) (H : Type) (enc : TypeId × Value → H) :
    ReturnsInHanded {} Try.checked os 5 .any (Rows.crcPlaysSpec.pre6 enc Try.prog Try.f5 Rows.crcPlaysRow.domain false) (Rows.crcPlaysSpec.post enc Try.prog Try.f5 false true false false) := by
  refine returnsInHanded_of_change (C := Try.checked) own started (by kernel_rfl) Try.func5
    (ChangeSpec.witness6 (enc := enc) (C := Try.checked) false ⟨#[], #[.string ByteArray.empty, .string ByteArray.empty, .int .u8 0], []⟩ 8 (by kernel_rfl) (by kernel_rfl) (by kernel_rfl) (by kernel_rfl)) ?_
  intro W base args ds gs before hval0 hW hcnd _
  have hval : ∀ (j : Nat) t v, Try.f5.params[j]? = some t → args[j]? = some v → Value.okWide Try.prog W .any base t v := hval0
  have hW' := hW
  obtain ⟨p, q, hA0, hV, rfl, hfz, hnd⟩ := hW
  have hA : DataW.TrodAll enc Try.prog W 0 (fun _ => true) true Try.f5.params.toList args.toList ds p := hA0
  rw [Try.params5] at hA hval
  obtain ⟨v0, vs0, d0, ds0, p0, q0, hargs, rfl, rfl, h0, r0⟩ := trodAll_cons hA
  obtain ⟨v1, vs1, d1, ds1, p1, q1, rfl, rfl, rfl, h1, r1⟩ := trodAll_cons r0
  obtain ⟨v2, vs2, d2, ds2, p2, q2, rfl, rfl, rfl, h2, r2⟩ := trodAll_cons r1
  obtain ⟨rfl, rfl, rfl⟩ := trodAll_nil r2
  obtain rfl : args = #[v0, v1, v2] := by cases args; simp_all
  obtain ⟨rfl, rfl⟩ := trodVars_none hV
  obtain ⟨a0, rfl, rfl, rfl, w0⟩ := open_string Try.underlying9 (hval 0 9 v0 rfl rfl) h0
  obtain ⟨a1, rfl, rfl, rfl, w1⟩ := open_string Try.underlying9 (hval 1 9 v1 rfl rfl) h1
  obtain ⟨a2, rfl, rfl, rfl, w2⟩ := open_int Try.underlying5 (hval 2 5 v2 rfl rfl) h2
  clear hA0 hval0
  simp only [List.append_nil] at hW'
  refine (walk a0 a1 a2 w0 w1 w2 W).mono fun e W' ⟨he, bel⟩ => ?_
  subst he
  exact ⟨_, rfl, _, _, _, [], _, [], hW', trodAll_mk1 (shut_bool Try.underlying4 _), (trodAll_cons_mk (shut_string Try.underlying9 w0) (trodAll_cons_mk (shut_string Try.underlying9 w1) (trodAll_cons_mk (shut_int Try.underlying5 w2) trodAll_mk0))), rfl, bel.frame _, fun h => by cases h⟩

theorem over : Rows.crcPlaysRow.holds Try.pinned (OpenSpec.ofChange Rows.crcPlaysSpec) :=
  OpenClaim.holds_of_wide 5 Try.f5 rfl rfl rfl rfl rfl rfl rfl ⟨rfl, rfl, rfl, rfl, rfl⟩ rfl rfl rfl rfl rfl (by kernel_rfl) Try.func5 (by kernel_rfl)
    (of_decide_eq_true (by kernel_rfl)) (by unfold Func.isWrapper; first | (rw [if_pos (by decide +kernel)]; kernel_rfl) | (rw [if_neg (by decide +kernel)]; exact ⟨rfl, rfl⟩))
    (fun os started H enc _ => lifted os started H enc)

/-- ████ THE STATEMENT ████ -/
theorem proved : Rows.CrcPlaysSaid :=
  over
#print axioms proved
end Go.Proofs.Ytkaofakcahnagaa.crcPlays
