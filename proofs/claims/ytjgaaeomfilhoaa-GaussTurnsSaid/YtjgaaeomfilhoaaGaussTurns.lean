/-
  Proved: for every input the law GaussTurns returns true, and leaves its arguments as they were. No condition.
-/
import Derived.Test.YtjgaaeomfilhoaaRows
import Derived.WalkKit
import Derived.ProofKit
import Derived.OpenShut
import Derived.ShutString
import Derived.Test.YtjgaaeomfilhoaaGaAwake
namespace Go.Proofs.Ytjgaaeomfilhoaa.gaussTurns
open Go.ChangeShapes Go.WideShapes Go.ChangeAt Go.RowKit
open Go.ChangeMaps (open_string shut_string)
set_option linter.unusedVariables false      -- a walk need not use every 'w<i>' (that an integer argument fits its kind)

theorem own : ownKnob Try.prog.godebug = none := by kernel_rfl

open Go.Proofs.Ytjgaaeomfilhoaa.Ga Go.Proofs.Ytjgaaeomfilhoaa.Ov
set_option maxHeartbeats 1000000 in
theorem bad {x y : Int} (n : Int) (h : rb ⟨x, y⟩ = false) (w : World) : Calls Try.prog 8 #[.agg #[.int .i64 x, .int .i64 y], .int .i64 n] w (Gives (.bool true) w) := by
  have HR := Lib.hid (right_any x y); rw [h] at HR; clear h
  go_enter Try.func8, Try.ntmps8
  go_wp2_with (fail)
  obtain ⟨kb, oD0⟩ := boxes1 23 (.int .i64 x) (.int .i64 y) w
  have HB_1 := Lib.hid kb
  have D0_1 := Lib.hid oD0
  clear kb oD0
  generalize w.alloc (.cells #[.int .i64 x, .int .i64 y] 23) = v1 at *
  refine (awake_any _).mono ?_
  rintro e w1_ ⟨rfl, hb⟩
  have D0_2 := Lib.hid (D0_1.out.next hb)
  have HB_2 := Lib.hid (Below.next HB_1.out hb)
  clear D0_1 HB_1
  clear hb
  obtain ⟨D00, D01, D02, D03⟩ := D0_2.out
  go_wp2_with (fail)
  clear D00 D01 D02 D03
  refine (HR.out _).mono ?_
  rintro e w2_ ⟨rfl, hb⟩
  clear D0_2
  have HB_3 := Lib.hid (Below.next HB_2.out hb)
  clear HB_2
  clear hb
  go_wp2_with (fail)
  refine (awake_any _).mono ?_
  rintro e w3_ ⟨rfl, hb⟩
  have HB_4 := Lib.hid (Below.next HB_3.out hb)
  clear HB_3
  clear hb
  go_wp2_with (fail)
  go_ret
  exact ⟨rfl, HB_4.out⟩
set_option maxHeartbeats 2000000 in
theorem core {x y n b1 b2 y' m p1 p2 e : Int} (w : World) (hn1 : -4 < n.tmod 4) (hn2 : n.tmod 4 < 4) (HR : Hid (∀ w, Calls Try.prog 22 #[.agg #[.int .i64 x, .int .i64 y]] w (Gives (.bool true) w))) (HT1 : Hid (∀ w, Calls Try.prog 19 #[.agg #[.int .i64 x, .int .i64 y], .int .i64 n] w (Gives (.tuple #[.agg #[.int .i64 b1, .int .i64 b2], .int .i64 0]) w))) (HT2 : Hid (∀ w, Calls Try.prog 19 #[.agg #[.int .i64 b1, .int .i64 b2], .int .i64 (4 - n.tmod 4)] w (Gives (.tuple #[.agg #[.int .i64 x, .int .i64 y], .int .i64 0]) w))) (HC : Hid (∀ w, Calls Try.prog 20 #[.agg #[.int .i64 x, .int .i64 y]] w (Gives (.tuple #[.agg #[.int .i64 x, .int .i64 y'], .int .i64 0]) w))) (HN1 : Hid (∀ w, Calls Try.prog 13 #[.agg #[.int .i64 x, .int .i64 y]] w (Gives (.tuple #[.int .i64 m, .int .i64 0]) w))) (HN2 : Hid (∀ w, Calls Try.prog 13 #[.agg #[.int .i64 b1, .int .i64 b2]] w (Gives (.tuple #[.int .i64 m, .int .i64 0]) w))) (HN3 : Hid (∀ w, Calls Try.prog 13 #[.agg #[.int .i64 x, .int .i64 y']] w (Gives (.tuple #[.int .i64 m, .int .i64 0]) w))) (HM : Hid (∀ w, Calls Try.prog 10 #[.agg #[.int .i64 x, .int .i64 y], .agg #[.int .i64 x, .int .i64 y']] w (Gives (.tuple #[.agg #[.int .i64 p1, .int .i64 p2], .int .i64 e]) w)))
    (hp : (e != 0) = true ∨ ((e != 0) = false ∧ (p1 == m) = true ∧ (p2 == 0) = true)) : Calls Try.prog 8 #[.agg #[.int .i64 x, .int .i64 y], .int .i64 n] w (Gives (.bool true) w) := by
  rcases hp with h1 | ⟨h1, h2, h3⟩
  all_goals
    go_enter Try.func8, Try.ntmps8
    go_wp2_with (fail)
    obtain ⟨kb, oD0⟩ := boxes1 23 (.int .i64 x) (.int .i64 y) w
    have HB_1 := Lib.hid kb
    have D0_1 := Lib.hid oD0
    clear kb oD0
    generalize w.alloc (.cells #[.int .i64 x, .int .i64 y] 23) = v1 at *
    refine (awake_any _).mono ?_
    rintro e w1_ ⟨rfl, hb⟩
    have D0_2 := Lib.hid (D0_1.out.next hb)
    have HB_2 := Lib.hid (Below.next HB_1.out hb)
    clear D0_1 HB_1
    clear hb
    obtain ⟨D00, D01, D02, D03⟩ := D0_2.out
    go_wp2_with (fail)
    clear D00 D01 D02 D03
    refine (HR.out _).mono ?_
    rintro e w2_ ⟨rfl, hb⟩
    have D0_3 := Lib.hid (D0_2.out.next hb)
    have HB_3 := Lib.hid (Below.next HB_2.out hb)
    clear D0_2 HB_2
    clear hb
    obtain ⟨D00, D01, D02, D03⟩ := D0_3.out
    go_wp2_with (fail)
    clear D00 D01 D02 D03
    refine (HT1.out _).mono ?_
    rintro e w3_ ⟨rfl, hb⟩
    have D0_4 := Lib.hid (D0_3.out.next hb)
    have HB_4 := Lib.hid (Below.next HB_3.out hb)
    clear D0_3 HB_3
    clear hb
    obtain ⟨kb, oB⟩ := boxes1 23 (.int .i64 b1) (.int .i64 b2) w3_
    have D0_5 := Lib.hid (D0_4.out.next kb)
    have HB_5 := Lib.hid (Below.next HB_4.out kb)
    clear D0_4 HB_4
    have B_5 := Lib.hid oB
    clear kb oB
    obtain ⟨B0, B1, B2, B3⟩ := B_5.out
    go_wp2_with (fail)
    generalize w3_.alloc (.cells #[.int .i64 b1, .int .i64 b2] 23) = v5 at *
    generalize w3_.heap.size = g5 at *
    clear B0 B1 B2 B3
    refine (HT2.out _).mono ?_
    rintro e w5_ ⟨rfl, hb⟩
    have D0_6 := Lib.hid (D0_5.out.next hb)
    have B_6 := Lib.hid (B_5.out.next hb)
    have HB_6 := Lib.hid (Below.next HB_5.out hb)
    clear D0_5 B_5 HB_5
    clear hb
    obtain ⟨kb, oK⟩ := boxes1 23 (.int .i64 x) (.int .i64 y) w5_
    have D0_7 := Lib.hid (D0_6.out.next kb)
    have B_7 := Lib.hid (B_6.out.next kb)
    have HB_7 := Lib.hid (Below.next HB_6.out kb)
    clear D0_6 B_6 HB_6
    have K_7 := Lib.hid oK
    clear kb oK
    obtain ⟨D00, D01, D02, D03⟩ := D0_7.out
    go_wp2_with (fail)
    generalize w5_.alloc (.cells #[.int .i64 x, .int .i64 y] 23) = v7 at *
    generalize w5_.heap.size = g7 at *
    clear D00 D01 D02 D03
    refine (HC.out _).mono ?_
    rintro e w7_ ⟨rfl, hb⟩
    have D0_8 := Lib.hid (D0_7.out.next hb)
    have B_8 := Lib.hid (B_7.out.next hb)
    have K_8 := Lib.hid (K_7.out.next hb)
    have HB_8 := Lib.hid (Below.next HB_7.out hb)
    clear D0_7 B_7 K_7 HB_7
    clear hb
    obtain ⟨kb, oE⟩ := boxes1 23 (.int .i64 x) (.int .i64 (y')) w7_
    have D0_9 := Lib.hid (D0_8.out.next kb)
    have B_9 := Lib.hid (B_8.out.next kb)
    have K_9 := Lib.hid (K_8.out.next kb)
    have HB_9 := Lib.hid (Below.next HB_8.out kb)
    clear D0_8 B_8 K_8 HB_8
    have E_9 := Lib.hid oE
    clear kb oE
    obtain ⟨D00, D01, D02, D03⟩ := D0_9.out
    go_wp2_with (fail)
    generalize w7_.alloc (.cells #[.int .i64 x, .int .i64 (y')] 23) = v9 at *
    generalize w7_.heap.size = g9 at *
    clear D00 D01 D02 D03
    refine (HN1.out _).mono ?_
    rintro e w9_ ⟨rfl, hb⟩
    have D0_10 := Lib.hid (D0_9.out.next hb)
    have B_10 := Lib.hid (B_9.out.next hb)
    have K_10 := Lib.hid (K_9.out.next hb)
    have E_10 := Lib.hid (E_9.out.next hb)
    have HB_10 := Lib.hid (Below.next HB_9.out hb)
    clear D0_9 B_9 K_9 E_9 HB_9
    clear hb
    obtain ⟨B0, B1, B2, B3⟩ := B_10.out
    go_wp2_with (fail)
    clear B0 B1 B2 B3
    refine (HN2.out _).mono ?_
    rintro e w10_ ⟨rfl, hb⟩
    clear B_10
    have D0_11 := Lib.hid (D0_10.out.next hb)
    have K_11 := Lib.hid (K_10.out.next hb)
    have E_11 := Lib.hid (E_10.out.next hb)
    have HB_11 := Lib.hid (Below.next HB_10.out hb)
    clear D0_10 K_10 E_10 HB_10
    clear hb
    obtain ⟨E0, E1, E2, E3⟩ := E_11.out
    go_wp2_with (fail)
    clear E0 E1 E2 E3
    refine (HN3.out _).mono ?_
    rintro e w11_ ⟨rfl, hb⟩
    have D0_12 := Lib.hid (D0_11.out.next hb)
    have K_12 := Lib.hid (K_11.out.next hb)
    have E_12 := Lib.hid (E_11.out.next hb)
    have HB_12 := Lib.hid (Below.next HB_11.out hb)
    clear D0_11 K_11 E_11 HB_11
    clear hb
    obtain ⟨D00, D01, D02, D03⟩ := D0_12.out
    obtain ⟨E0, E1, E2, E3⟩ := E_12.out
    go_wp2_with (fail)
    clear D00 D01 D02 D03 E0 E1 E2 E3
    refine (HM.out _).mono ?_
    rintro e w12_ ⟨rfl, hb⟩
    clear E_12
    have D0_13 := Lib.hid (D0_12.out.next hb)
    have K_13 := Lib.hid (K_12.out.next hb)
    have HB_13 := Lib.hid (Below.next HB_12.out hb)
    clear D0_12 K_12 HB_12
    clear hb
    obtain ⟨kb, oP⟩ := boxes1 23 (.int .i64 p1) (.int .i64 p2) w12_
    have D0_14 := Lib.hid (D0_13.out.next kb)
    have K_14 := Lib.hid (K_13.out.next kb)
    have HB_14 := Lib.hid (Below.next HB_13.out kb)
    clear D0_13 K_13 HB_13
    have P_14 := Lib.hid oP
    clear kb oP
    obtain ⟨D00, D01, D02, D03⟩ := D0_14.out
    obtain ⟨K0, K1, K2, K3⟩ := K_14.out
    obtain ⟨P0, P1, P2, P3⟩ := P_14.out
    go_wp2_with (fail)
    generalize w12_.alloc (.cells #[.int .i64 p1, .int .i64 p2] 23) = v14 at *
    generalize w12_.heap.size = g14 at *
    go_ret
    exact ⟨rfl, HB_14.out⟩
theorem good {x y : Int} (n : Int) (h : rb ⟨x, y⟩ = true) (w : World) : Calls Try.prog 8 #[.agg #[.int .i64 x, .int .i64 y], .int .i64 n] w (Gives (.bool true) w) := by
  have h1 : rb (Pt.turns (n % 4).toNat ⟨x, y⟩) = true := Pt.turns_right _ h
  have t1 := turn_yes h n
  have e1 : Pt.turns ((4 - n.tmod 4) % 4).toNat (Pt.turns (n % 4).toNat ⟨x, y⟩) = ⟨x, y⟩ := by
    have hk : ((4 - n.tmod 4) % 4).toNat + (n % 4).toNat = 0 ∨ ((4 - n.tmod 4) % 4).toNat + (n % 4).toNat = 4 := by
      have := Int.tmod_eq_emod (a := n) (b := 4); split at this <;> omega
    rw [Pt.turns_add]
    rcases hk with hk | hk
    · rw [hk]; rfl
    · rw [hk]; exact Pt.turns4 _
  have n1 : (Pt.turns (n % 4).toNat ⟨x, y⟩).norm = Pt.norm ⟨x, y⟩ := Pt.turns_norm _ _
  generalize Pt.turns (n % 4).toNat ⟨x, y⟩ = b at *
  obtain ⟨b1, b2⟩ := b
  have t2 := turn_yes h1 (4 - n.tmod 4)
  rw [e1] at t2
  have hy : rb ⟨x, -y⟩ = true := by unfold rb at *; rw [fb_neg]; exact h
  have n3 : x * x + -y * -y = x * x + y * y := by rw [Int.neg_mul_neg]
  have n2 : b1 * b1 + b2 * b2 = x * x + y * y := n1
  have q2 := norm_yes h1
  have q3 := norm_yes hy
  rw [n2] at q2; rw [n3] at q3
  have hm := mul_any x y x (-y)
  have em : Pt.mul ⟨x, y⟩ ⟨x, -y⟩ = ⟨x * x + y * y, 0⟩ := Pt.ext (by show x * x - y * -y = x * x + y * y; rw [Int.mul_neg]; omega) (by show x * -y + y * x = 0; rw [Int.mul_neg, Int.mul_comm y x]; omega)
  have hr := right_any x y
  rw [h] at hr
  rw [h, hy, em, Bool.true_and, Bool.true_and] at hm
  have l1 : -4 < n.tmod 4 := by have := Int.lt_tmod_of_pos n (show (0 : Int) < 4 by omega); omega
  have l2 : n.tmod 4 < 4 := Int.tmod_lt_of_pos n (by omega)
  cases hk : rb ⟨x * x + y * y, 0⟩
  · rw [hk] at hm
    exact core w l1 l2 (Lib.hid hr) (Lib.hid t1) (Lib.hid t2) (Lib.hid (conj_yes h)) (Lib.hid (norm_yes h)) (Lib.hid q2) (Lib.hid q3) (Lib.hid hm) (.inl (by decide))
  · rw [hk] at hm
    exact core w l1 l2 (Lib.hid hr) (Lib.hid t1) (Lib.hid t2) (Lib.hid (conj_yes h)) (Lib.hid (norm_yes h)) (Lib.hid q2) (Lib.hid q3) (Lib.hid hm) (.inr ⟨by decide, beq_self_eq_true _, beq_self_eq_true _⟩)
/-! ### STEP 1: THE WALK: the Go text returns true. 'Grown w w'': the world has at most new blocks (Derived/RowKit3.lean). Part the cases AHEAD of 'go_enter' where a test parts the walk; take each callee by a contract of your own. -/
theorem walk (x0 y0 : Int) (a1 : Int) (wx0 : (Lit.int .i64 x0).wf = true) (wy0 : (Lit.int .i64 y0).wf = true) (w1 : (Lit.int .i64 a1).wf = true) (w : World) :
    Calls Try.prog 8 #[.agg #[.int .i64 x0, .int .i64 y0], .int .i64 a1] w fun e w' => e = .returned (.bool true) ∧ Below w.heap.size w w' := by
  cases h : rb ⟨x0, y0⟩
  · exact bad a1 h w
  · exact good a1 h w

/-! ### THE ROW's STEP: WRITTEN OUT: LEAVE IT -/
set_option maxRecDepth 100000 in
theorem lifted (os : Os) (started : os.Started) (H : Type) (enc : TypeId × Value → H) :
    ReturnsInHanded {} Try.checked os 8 .any (Rows.gaussTurnsSpec.pre6 enc Try.prog Try.f8 Rows.gaussTurnsRow.domain false) (Rows.gaussTurnsSpec.post enc Try.prog Try.f8 false true false false) := by
  refine returnsInHanded_of_change (C := Try.checked) own started (by kernel_rfl) Try.func8
    (ChangeSpec.witness6 (enc := enc) (C := Try.checked) false ⟨#[], #[.agg #[.int .i64 0, .int .i64 0], .int .i64 0], []⟩ 8 (by kernel_rfl) (by kernel_rfl) (by kernel_rfl) (by kernel_rfl)) ?_
  intro W base args ds gs before hval0 hW hcnd _
  have hval : ∀ (j : Nat) t v, Try.f8.params[j]? = some t → args[j]? = some v → Value.okWide Try.prog W .any base t v := hval0
  have hW' := hW
  obtain ⟨p, q, hA0, hV, rfl, hfz, hnd⟩ := hW
  have hA : DataW.TrodAll enc Try.prog W 0 (fun _ => true) true Try.f8.params.toList args.toList ds p := hA0
  rw [Try.params8] at hA hval
  obtain ⟨v0, vs0, d0, ds0, p0, q0, hargs, rfl, rfl, h0, r0⟩ := trodAll_cons hA
  obtain ⟨v1, vs1, d1, ds1, p1, q1, rfl, rfl, rfl, h1, r1⟩ := trodAll_cons r0
  obtain ⟨rfl, rfl, rfl⟩ := trodAll_nil r1
  obtain rfl : args = #[v0, v1] := by cases args; simp_all
  obtain ⟨rfl, rfl⟩ := trodVars_none hV
  obtain ⟨x0, y0, rfl, rfl, rfl, wx0, wy0⟩ := Ga.spot_of (hval 0 23 v0 rfl rfl) h0
  obtain ⟨a1, rfl, rfl, rfl, w1⟩ := open_int Try.underlying3 (hval 1 3 v1 rfl rfl) h1
  clear hA0 hval0
  simp only [List.append_nil] at hW'
  refine (walk x0 y0 a1 wx0 wy0 w1 W).mono fun e W' ⟨he, bel⟩ => ?_
  subst he
  exact ⟨_, rfl, _, _, _, [], _, [], hW', trodAll_mk1 (shut_bool Try.underlying4 _), (trodAll_cons_mk (Ga.shut_spot wx0 wy0) (trodAll_cons_mk (shut_int Try.underlying3 w1) trodAll_mk0)), rfl, bel.frame _, fun h => by cases h⟩

theorem over : Rows.gaussTurnsRow.holds Try.pinned (OpenSpec.ofChange Rows.gaussTurnsSpec) :=
  OpenClaim.holds_of_wide 8 Try.f8 rfl rfl rfl rfl rfl rfl rfl ⟨rfl, rfl, rfl, rfl, rfl⟩ rfl rfl rfl rfl rfl (by kernel_rfl) Try.func8 (by kernel_rfl)
    (of_decide_eq_true (by kernel_rfl)) (by unfold Func.isWrapper; first | (rw [if_pos (by decide +kernel)]; kernel_rfl) | (rw [if_neg (by decide +kernel)]; exact ⟨rfl, rfl⟩))
    (fun os started H enc _ => lifted os started H enc)

/-- ████ THE STATEMENT ████ -/
theorem proved : Rows.GaussTurnsSaid :=
  over
#print axioms proved
end Go.Proofs.Ytjgaaeomfilhoaa.gaussTurns
