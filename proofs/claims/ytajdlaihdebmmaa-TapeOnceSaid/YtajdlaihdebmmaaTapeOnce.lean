/-
  Proved: for every input the law TapeOnce returns true, and leaves its arguments as they were. No condition.
-/
import Derived.Test.YtajdlaihdebmmaaRows
import Derived.WalkKit
import Derived.ProofKit
import Derived.OpenShut
import Derived.ShutString
import Derived.Test.YtajdlaihdebmmaaTpAwake
namespace Go.Proofs.Ytajdlaihdebmmaa.tapeOnce
open Go.ChangeShapes Go.WideShapes Go.ChangeAt Go.RowKit
open Go.ChangeMaps (open_string shut_string)
set_option linter.unusedVariables false      -- a walk need not use every 'w<i>' (that an integer argument fits its kind)

theorem own : ownKnob Try.prog.godebug = none := by kernel_rfl

open Go.Proofs.Ytajdlaihdebmmaa.Tp Go.Proofs.Ytajdlaihdebmmaa.Ov
def Ans (n m : Int) (w : World) : Prop := Calls Try.prog 4 #[.int .i64 n, .int .i64 m] w fun e w' => e = .returned (.bool true) ∧ Below w.heap.size w w'
theorem tx_ne {l : List UInt8} (h : l ≠ []) : (tx l).toList.isEmpty = false := by
  rw [ByteArray.toList_eq, tx_list]
  simpa using h
set_option maxRecDepth 100000 in
set_option maxHeartbeats 1000000 in
theorem bad (n m : Int) (w : World) (h : n < 0 ∨ 9007199254740991 < n) : Ans n m w := by
  have HN : Hid (nv n = []) := nv_none.2 h
  generalize nv m = M
  show Calls _ _ _ _ _
  go_enter Try.func4, Try.ntmps4
  go_wp2_with fail
  refine (awake_any _).mono ?_
  rintro e w1 ⟨rfl, hb⟩
  have HB1 := Lib.hid hb; clear hb
  go_wp2_with fail
  refine (num_any n _).mono ?_
  rintro e w2 ⟨rfl, hb⟩
  have HB2 := Lib.hid (Below.next HB1.out hb); clear hb
  rw [HN.out]
  have e0 : tx [] = ⟨#[]⟩ := rfl
  rw [e0]
  go_wp2_with fail
  refine (num_any m _).mono ?_
  rintro e w3 ⟨rfl, hb⟩
  have HB3 := Lib.hid (Below.next HB2.out hb); clear hb
  generalize tx (nv m) = M
  by_cases h1 : n < 0
  · by_cases h2 : n = m
    · have h3 : (n == m) = true := by rw [beq_iff_eq]; exact h2
      clear h2 h
      go_wp2_with fail
      go_ret
      exact ⟨rfl, HB3.out⟩
    · have h3 : (n == m) = false := by rw [beq_eq_false_iff_ne]; exact h2
      clear h2 h
      go_wp2_with fail
      go_ret
      exact ⟨rfl, HB3.out⟩
  · have h4 : 9007199254740991 < n := by omega
    by_cases h2 : n = m
    · have h3 : (n == m) = true := by rw [beq_iff_eq]; exact h2
      clear h2 h
      go_wp2_with fail
      go_ret
      exact ⟨rfl, HB3.out⟩
    · have h3 : (n == m) = false := by rw [beq_eq_false_iff_ne]; exact h2
      clear h2 h
      go_wp2_with fail
      go_ret
      exact ⟨rfl, HB3.out⟩
set_option maxRecDepth 100000 in
set_option maxHeartbeats 1000000 in
theorem same (n : Nat) (m : Int) (w : World) (h : n ≤ 9007199254740991) (hm : (n : Int) = m ∨ m < 0 ∨ 9007199254740991 < m) : Ans n m w := by
  have HA := Lib.hid (tx_ne (nb_ne n))
  have h1 : decide ((n : Int) < 0) = false := by simp
  have h2 : decide (9007199254740991 < (n : Int)) = false := by simp; omega
  show Calls _ _ _ _ _
  go_enter Try.func4, Try.ntmps4
  go_wp2_with fail
  refine (awake_any _).mono ?_
  rintro e w1 ⟨rfl, hb⟩
  have HB1 := Lib.hid hb; clear hb
  go_wp2_with fail
  refine (num_yes n _ h).mono ?_
  rintro e w2 ⟨rfl, hb⟩
  have HB2 := Lib.hid (Below.next HB1.out hb); clear hb
  generalize tx (nb n) = A at *
  have hA := HA.out
  go_wp2_with fail
  refine (num_any m _).mono ?_
  rintro e w3 ⟨rfl, hb⟩
  have HB3 := Lib.hid (Below.next HB2.out hb); clear hb
  by_cases hm1 : (n : Int) = m
  · have h3 : ((n : Int) == m) = true := by rw [beq_iff_eq]; exact hm1
    clear hm hm1
    generalize tx (nv m) = M
    go_wp2_with fail
    go_ret
    exact ⟨rfl, HB3.out⟩
  · have h3 : ((n : Int) == m) = false := by rw [beq_eq_false_iff_ne]; exact hm1
    have e0 : tx (nv m) = ⟨#[]⟩ := by rw [nv_none.2 (by omega)]; rfl
    rw [e0]
    clear hm hm1 e0
    go_wp2_with fail
    go_ret
    exact ⟨rfl, HB3.out⟩
set_option maxRecDepth 100000 in
set_option maxHeartbeats 1000000 in
theorem other (n m : Nat) (w : World) (h : n ≤ 9007199254740991) (hm : m ≤ 9007199254740991) (hne : n ≠ m) : Ans n m w := by
  have hA := tx_ne (nb_ne n)
  have hM := tx_ne (nb_ne m)
  have HX : Hid ((tx (nb n)).size ≤ (tx (nb m)).size → (((tx (nb m)).extract 0 (tx (nb n)).size).toList == (tx (nb n)).toList) = false) := fun _ => by
    rw [beq_eq_false_iff_ne, ByteArray.toList_eq, ByteArray.toList_eq, ext_take, tx_list, tx_list, tx_list]
    intro e2
    apply hne
    exact nb_once ((nb m).drop (tx (nb n)).size) h hm (by
      have := List.take_append_drop (tx (nb n)).size (nb m)
      rw [e2] at this
      exact this.symm)
  have h1 : ((n : Int) == (m : Int)) = false := by rw [beq_eq_false_iff_ne]; omega
  have HN := Lib.hid (fun w => num_yes n w h)
  have HM := Lib.hid (fun w => num_yes m w hm)
  have z1 : (tx (nb n)).size ≤ 8 := by rw [tx_size]; exact nb_len8 h
  have z2 : (tx (nb m)).size ≤ 8 := by rw [tx_size]; exact nb_len8 hm
  generalize tx (nb n) = A at *
  generalize tx (nb m) = M at *
  have HA := Lib.hid hA; have HMe := Lib.hid hM; clear hA hM
  show Calls _ _ _ _ _
  go_enter Try.func4, Try.ntmps4
  go_wp2_with fail
  refine (awake_any _).mono ?_
  rintro e w1 ⟨rfl, hb⟩
  have HB1 := Lib.hid hb; clear hb
  go_wp2_with fail
  refine (HN.out _).mono ?_
  rintro e w2 ⟨rfl, hb⟩
  have HB2 := Lib.hid (Below.next HB1.out hb); clear hb
  go_wp2_with fail
  refine (HM.out _).mono ?_
  rintro e w3 ⟨rfl, hb⟩
  have HB3 := Lib.hid (Below.next HB2.out hb); clear hb
  have hA := HA.out; have hM := HMe.out
  by_cases hl : M.size < A.size
  · go_wp2_with fail
    go_ret
    exact ⟨rfl, HB3.out⟩
  · have hx := HX.out (by omega)
    go_wp2_with fail
    go_ret
    exact ⟨rfl, HB3.out⟩
/-! ### STEP 1: THE WALK: the Go text returns true. 'Grown w w'': the world has at most new blocks (Derived/RowKit3.lean). Part the cases AHEAD of 'go_enter' where a test parts the walk; take each callee by a contract of your own. -/
theorem walk (a0 : Int) (a1 : Int) (w0 : (Lit.int .i64 a0).wf = true) (w1 : (Lit.int .i64 a1).wf = true) (w : World) :
    Calls Try.prog 4 #[.int .i64 a0, .int .i64 a1] w fun e w' => e = .returned (.bool true) ∧ Below w.heap.size w w' := by
  by_cases h : a0 < 0 ∨ 9007199254740991 < a0
  · exact bad a0 a1 w h
  obtain ⟨n, rfl⟩ : ∃ n : Nat, a0 = (n : Int) := ⟨a0.toNat, by omega⟩
  by_cases hm : (n : Int) = a1 ∨ a1 < 0 ∨ 9007199254740991 < a1
  · exact same n a1 w (by omega) hm
  obtain ⟨m, rfl⟩ : ∃ m : Nat, a1 = (m : Int) := ⟨a1.toNat, by omega⟩
  exact other n m w (by omega) (by omega) (by omega)

/-! ### THE ROW's STEP: WRITTEN OUT: LEAVE IT -/
set_option maxRecDepth 100000 in
theorem lifted (os : Os) (started : os.Started) (H : Type) (enc : TypeId × Value → H) :
    ReturnsInHanded {} Try.checked os 4 .any (Rows.tapeOnceSpec.pre6 enc Try.prog Try.f4 Rows.tapeOnceRow.domain false) (Rows.tapeOnceSpec.post enc Try.prog Try.f4 false true false false) := by
  refine returnsInHanded_of_change (C := Try.checked) own started (by kernel_rfl) Try.func4
    (ChangeSpec.witness6 (enc := enc) (C := Try.checked) false ⟨#[], #[.int .i64 0, .int .i64 0], []⟩ 8 (by kernel_rfl) (by kernel_rfl) (by kernel_rfl) (by kernel_rfl)) ?_
  intro W base args ds gs before hval0 hW hcnd _
  have hval : ∀ (j : Nat) t v, Try.f4.params[j]? = some t → args[j]? = some v → Value.okWide Try.prog W .any base t v := hval0
  have hW' := hW
  obtain ⟨p, q, hA0, hV, rfl, hfz, hnd⟩ := hW
  have hA : DataW.TrodAll enc Try.prog W 0 (fun _ => true) true Try.f4.params.toList args.toList ds p := hA0
  rw [Try.params4] at hA hval
  obtain ⟨v0, vs0, d0, ds0, p0, q0, hargs, rfl, rfl, h0, r0⟩ := trodAll_cons hA
  obtain ⟨v1, vs1, d1, ds1, p1, q1, rfl, rfl, rfl, h1, r1⟩ := trodAll_cons r0
  obtain ⟨rfl, rfl, rfl⟩ := trodAll_nil r1
  obtain rfl : args = #[v0, v1] := by cases args; simp_all
  obtain ⟨rfl, rfl⟩ := trodVars_none hV
  obtain ⟨a0, rfl, rfl, rfl, w0⟩ := open_int Try.underlying3 (hval 0 3 v0 rfl rfl) h0
  obtain ⟨a1, rfl, rfl, rfl, w1⟩ := open_int Try.underlying3 (hval 1 3 v1 rfl rfl) h1
  clear hA0 hval0
  simp only [List.append_nil] at hW'
  refine (walk a0 a1 w0 w1 W).mono fun e W' ⟨he, bel⟩ => ?_
  subst he
  exact ⟨_, rfl, _, _, _, [], _, [], hW', trodAll_mk1 (shut_bool Try.underlying4 _), (trodAll_cons_mk (shut_int Try.underlying3 w0) (trodAll_cons_mk (shut_int Try.underlying3 w1) trodAll_mk0)), rfl, bel.frame _, fun h => by cases h⟩

theorem over : Rows.tapeOnceRow.holds Try.pinned (OpenSpec.ofChange Rows.tapeOnceSpec) :=
  OpenClaim.holds_of_wide 4 Try.f4 rfl rfl rfl rfl rfl rfl rfl ⟨rfl, rfl, rfl, rfl, rfl⟩ rfl rfl rfl rfl rfl (by kernel_rfl) Try.func4 (by kernel_rfl)
    (of_decide_eq_true (by kernel_rfl)) (by unfold Func.isWrapper; first | (rw [if_pos (by decide +kernel)]; kernel_rfl) | (rw [if_neg (by decide +kernel)]; exact ⟨rfl, rfl⟩))
    (fun os started H enc _ => lifted os started H enc)

/-- ████ THE STATEMENT ████ -/
theorem proved : Rows.TapeOnceSaid :=
  over
#print axioms proved
end Go.Proofs.Ytajdlaihdebmmaa.tapeOnce
