/-
  Proved: for every input the law GaussDiv returns true, and leaves its arguments as they were. No condition.
-/
import Derived.Test.YtjgaaeomfilhoaaRows
import Derived.WalkKit
import Derived.ProofKit
import Derived.OpenShut
import Derived.ShutString
import Derived.Test.YtjgaaeomfilhoaaGaAwake
namespace Go.Proofs.Ytjgaaeomfilhoaa.gaussDiv
open Go.ChangeShapes Go.WideShapes Go.ChangeAt Go.RowKit
open Go.ChangeMaps (open_string shut_string)
set_option linter.unusedVariables false      -- a walk need not use every 'w<i>' (that an integer argument fits its kind)

theorem own : ownKnob Try.prog.godebug = none := by kernel_rfl

open Go.Proofs.Ytjgaaeomfilhoaa.Ga Go.Proofs.Ytjgaaeomfilhoaa.Ov
set_option maxHeartbeats 1000000 in
theorem err {x y u v k : Int} (hk : (k != 0) = true) (hd : ∀ w, Calls Try.prog 14 #[.agg #[.int .i64 x, .int .i64 y], .agg #[.int .i64 u, .int .i64 v]] w (Gives (two 0 0 0 0 k) w)) (w : World) :
    Calls Try.prog 4 #[.agg #[.int .i64 x, .int .i64 y], .agg #[.int .i64 u, .int .i64 v]] w (Gives (.bool true) w) := by
  have HD : Hid (∀ w, Calls Try.prog 14 #[.agg #[.int .i64 x, .int .i64 y], .agg #[.int .i64 u, .int .i64 v]] w (Gives (.tuple #[.agg #[.int .i64 0, .int .i64 0], .agg #[.int .i64 0, .int .i64 0], .int .i64 k]) w)) := hd
  clear hd
  go_enter Try.func4, Try.ntmps4
  go_wp2_with (fail)
  refine (HD.out _).mono ?_
  rintro e w1 ⟨rfl, hb⟩
  have HB := Lib.hid (Below.next (box2 w _ _) hb); clear hb
  go_wp2_with (fail)
  obtain ⟨k2, o5, o6⟩ := boxes2 23 (.int .i64 0) (.int .i64 0) (.int .i64 0) (.int .i64 0) w1
  have HB2 := Lib.hid (Below.next HB.out k2)
  have O5 := Lib.hid o5; have O6 := Lib.hid o6
  clear k2 o5 o6
  generalize (w1.alloc (.cells #[.int .i64 0, .int .i64 0] 23)).alloc (.cells #[.int .i64 0, .int .i64 0] 23) = w2 at *
  generalize w1.heap.size = g at *
  refine (awake_any _).mono ?_
  rintro e w3 ⟨rfl, hb⟩
  have HB3 := Lib.hid (Below.next HB2.out hb)
  have P5 := Lib.hid (O5.out.next hb); have P6 := Lib.hid (O6.out.next hb)
  clear hb
  go_wp2_with (fail)
  refine (awake_any _).mono ?_
  rintro e w4 ⟨rfl, hb⟩
  have HB4 := Lib.hid (Below.next HB3.out hb)
  obtain ⟨a0, a1, _, _⟩ := P5.out.next hb
  obtain ⟨b0, b1, _, _⟩ := P6.out.next hb
  clear hb
  go_wp2_with (fail)
  go_ret
  exact ⟨rfl, HB4.out⟩
set_option maxHeartbeats 2000000 in
theorem good {x y u v : Int} (ha : rb ⟨x, y⟩ = true) (hb : rb ⟨u, v⟩ = true) (h0 : (⟨u, v⟩ : Pt) ≠ Pt.zero) (w : World) :
    Calls Try.prog 4 #[.agg #[.int .i64 x, .int .i64 y], .agg #[.int .i64 u, .int .i64 v]] w (Gives (.bool true) w) := by
  have hd := div_yes ha hb h0
  have hq := Pt.quo_mul_rest ⟨x, y⟩ ⟨u, v⟩
  have hn := Pt.rest_norm ⟨x, y⟩ h0
  have hr := Pt.rest_right (a := ⟨x, y⟩) hb h0
  have hqr := Pt.quo_right ha h0
  generalize Pt.quo ⟨x, y⟩ ⟨u, v⟩ = q at *
  generalize Pt.rest ⟨x, y⟩ ⟨u, v⟩ = r at *
  obtain ⟨p, q⟩ := q
  obtain ⟨r, s⟩ := r
  have e1 : p * u - q * v + r = x := congrArg Pt.x hq
  have e2 : p * v + q * u + s = y := congrArg Pt.y hq
  have e3 : 2 * (r * r + s * s) ≤ u * u + v * v := hn
  have HD : Hid (∀ w, Calls Try.prog 14 #[.agg #[.int .i64 x, .int .i64 y], .agg #[.int .i64 u, .int .i64 v]] w (Gives (.tuple #[.agg #[.int .i64 p, .int .i64 q], .agg #[.int .i64 r, .int .i64 s], .int .i64 0]) w)) := hd
  have HN := Lib.hid (norm_yes hr)
  have HM := Lib.hid (norm_yes hb)
  obtain ⟨xl, yl⟩ := rb_xy ha
  obtain ⟨ul, vl⟩ := rb_xy hb
  obtain ⟨pl, ql⟩ := rb_xy hqr
  obtain ⟨rl, sl⟩ := rb_xy hr
  obtain ⟨g1, g2⟩ := mul_big pl ul
  obtain ⟨g3, g4⟩ := mul_big ql vl
  obtain ⟨g5, g6⟩ := mul_big pl vl
  obtain ⟨g7, g8⟩ := mul_big ql ul
  have hN : 0 ≤ r * r + s * s ∧ r * r + s * s ≤ 562949953421312 := by
    have t1 := sq_nonneg r; have t2 := sq_nonneg s
    have t3 := mul_big rl rl; have t4 := mul_big sl sl; omega
  obtain ⟨n1, n2⟩ := hN
  generalize r * r + s * s = n at *
  generalize u * u + v * v = m at *
  have e1' : (p * u - q * v + r == x) = true := beq_iff_eq.2 e1
  have e2' : (p * v + q * u + s == y) = true := beq_iff_eq.2 e2
  obtain ⟨rl1, rl2⟩ := rl
  obtain ⟨sl1, sl2⟩ := sl
  clear hd hq hn hr hqr ha hb h0 e1 e2 xl yl ul vl pl ql
  go_enter Try.func4, Try.ntmps4
  go_wp2_with (fail)
  obtain ⟨h2, d2, d3⟩ := boxes2 23 (.int .i64 x) (.int .i64 y) (.int .i64 u) (.int .i64 v) w
  generalize (w.alloc (.cells #[.int .i64 x, .int .i64 y] 23)).alloc (.cells #[.int .i64 u, .int .i64 v] 23) = w0 at *
  refine (HD.out _).mono ?_
  rintro e w1 ⟨rfl, hb⟩
  obtain ⟨k2, o5, o6⟩ := boxes2 23 (.int .i64 p) (.int .i64 q) (.int .i64 r) (.int .i64 s) w1
  have HB := Lib.hid (Below.next (Below.next h2 hb) k2)
  have D2 := Lib.hid ((d2.next hb).next k2); have D3 := Lib.hid ((d3.next hb).next k2)
  have O5 := Lib.hid o5; have O6 := Lib.hid o6
  clear h2 d2 d3 hb k2 o5 o6
  go_wp2_with (fail)
  generalize (w1.alloc (.cells #[.int .i64 p, .int .i64 q] 23)).alloc (.cells #[.int .i64 r, .int .i64 s] 23) = w2 at *
  generalize w1.heap.size = g at *
  refine (awake_any _).mono ?_
  rintro e w3 ⟨rfl, hb⟩
  have HB3 := Lib.hid (Below.next HB.out hb)
  have E2 := Lib.hid (D2.out.next hb); have E3 := Lib.hid (D3.out.next hb); have E5 := Lib.hid (O5.out.next hb); have E6 := Lib.hid (O6.out.next hb)
  clear hb D2 D3 O5 O6 HB
  obtain ⟨c0, c1, _, _⟩ := E6.out
  go_wp2_with (fail)
  refine (HN.out _).mono ?_
  rintro e w4 ⟨rfl, hb⟩
  have HB4 := Lib.hid (Below.next HB3.out hb)
  have F2 := Lib.hid (E2.out.next hb); have F3 := Lib.hid (E3.out.next hb); have F5 := Lib.hid (E5.out.next hb); have F6 := Lib.hid (E6.out.next hb)
  clear hb E2 E3 E5 E6 HB3 c0 c1
  obtain ⟨c0, c1, _, _⟩ := F3.out
  go_wp2_with (fail)
  refine (HM.out _).mono ?_
  rintro e w5 ⟨rfl, hb⟩
  have HB5 := Lib.hid (Below.next HB4.out hb)
  have G2 := F2.out.next hb; have G3 := F3.out.next hb; have G5 := F5.out.next hb; have G6 := F6.out.next hb
  clear hb F2 F3 F5 F6 HB4 c0 c1
  obtain ⟨a0, a1, _, _⟩ := G2
  obtain ⟨b0, b1, _, _⟩ := G3
  obtain ⟨c0, c1, _, _⟩ := G5
  obtain ⟨d0, d1, _, _⟩ := G6
  go_wp2_with (fail)
  go_ret
  exact ⟨rfl, HB5.out⟩
/-! ### STEP 1: THE WALK: the Go text returns true. 'Grown w w'': the world has at most new blocks (Derived/RowKit3.lean). Part the cases AHEAD of 'go_enter' where a test parts the walk; take each callee by a contract of your own. -/
theorem walk (x0 y0 : Int) (x1 y1 : Int) (wx0 : (Lit.int .i64 x0).wf = true) (wy0 : (Lit.int .i64 y0).wf = true) (wx1 : (Lit.int .i64 x1).wf = true) (wy1 : (Lit.int .i64 y1).wf = true) (w : World) :
    Calls Try.prog 4 #[.agg #[.int .i64 x0, .int .i64 y0], .agg #[.int .i64 x1, .int .i64 y1]] w fun e w' => e = .returned (.bool true) ∧ Below w.heap.size w w' := by
  by_cases h0 : (rb ⟨x0, y0⟩ && rb ⟨x1, y1⟩) = true
  · have h12 := h0; rw [Bool.and_eq_true] at h12
    by_cases hz : (⟨x1, y1⟩ : Pt) = Pt.zero
    · injection hz with e1 e2
      subst e1; subst e2
      exact err (by decide) (div_zero x0 y0 h12.1) w
    · exact good h12.1 h12.2 hz w
  · exact err (by decide) (div_bad x0 y0 x1 y1 (by simpa using h0)) w

/-! ### THE ROW's STEP: WRITTEN OUT: LEAVE IT -/
set_option maxRecDepth 100000 in
theorem lifted (os : Os) (started : os.Started) (H : Type) (enc : TypeId × Value → H) :
    ReturnsInHanded {} Try.checked os 4 .any (Rows.gaussDivSpec.pre6 enc Try.prog Try.f4 Rows.gaussDivRow.domain false) (Rows.gaussDivSpec.post enc Try.prog Try.f4 false true false false) := by
  refine returnsInHanded_of_change (C := Try.checked) own started (by kernel_rfl) Try.func4
    (ChangeSpec.witness6 (enc := enc) (C := Try.checked) false ⟨#[], #[.agg #[.int .i64 0, .int .i64 0], .agg #[.int .i64 0, .int .i64 0]], []⟩ 8 (by kernel_rfl) (by kernel_rfl) (by kernel_rfl) (by kernel_rfl)) ?_
  intro W base args ds gs before hval0 hW hcnd _
  have hval : ∀ (j : Nat) t v, Try.f4.params[j]? = some t → args[j]? = some v → Value.okWide Try.prog W .any base t v := hval0
  have hW' := hW
  obtain ⟨p, q, hA0, hV, rfl, hfz, hnd⟩ := hW
  have hA : DataW.TrodAll enc Try.prog W 0 (fun _ => true) true Try.f4.params.toList args.toList ds p := hA0
  rw [Try.params4] at hA hval
  obtain ⟨v0, vs0, d0, ds0, p0, q0, hargs, rfl, rfl, h0, r0⟩ := trodAll_cons hA
  obtain ⟨v1, vs1, d1, ds1, p1, q1, rfl, rfl, rfl, h1, r1⟩ := trodAll_cons r0
  obtain ⟨rfl, rfl, rfl⟩ := trodAll_nil r1
  obtain rfl : args = #[v0, v1] := by cases args; simp_all
  obtain ⟨rfl, rfl⟩ := trodVars_none hV
  obtain ⟨x0, y0, rfl, rfl, rfl, wx0, wy0⟩ := Ga.spot_of (hval 0 23 v0 rfl rfl) h0
  obtain ⟨x1, y1, rfl, rfl, rfl, wx1, wy1⟩ := Ga.spot_of (hval 1 23 v1 rfl rfl) h1
  clear hA0 hval0
  simp only [List.append_nil] at hW'
  refine (walk x0 y0 x1 y1 wx0 wy0 wx1 wy1 W).mono fun e W' ⟨he, bel⟩ => ?_
  subst he
  exact ⟨_, rfl, _, _, _, [], _, [], hW', trodAll_mk1 (shut_bool Try.underlying4 _), (trodAll_cons_mk (Ga.shut_spot wx0 wy0) (trodAll_cons_mk (Ga.shut_spot wx1 wy1) trodAll_mk0)), rfl, bel.frame _, fun h => by cases h⟩

theorem over : Rows.gaussDivRow.holds Try.pinned (OpenSpec.ofChange Rows.gaussDivSpec) :=
  OpenClaim.holds_of_wide 4 Try.f4 rfl rfl rfl rfl rfl rfl rfl ⟨rfl, rfl, rfl, rfl, rfl⟩ rfl rfl rfl rfl rfl (by kernel_rfl) Try.func4 (by kernel_rfl)
    (of_decide_eq_true (by kernel_rfl)) (by unfold Func.isWrapper; first | (rw [if_pos (by decide +kernel)]; kernel_rfl) | (rw [if_neg (by decide +kernel)]; exact ⟨rfl, rfl⟩))
    (fun os started H enc _ => lifted os started H enc)

/-- ████ THE STATEMENT ████ -/
theorem proved : Rows.GaussDivSaid :=
  over
#print axioms proved
end Go.Proofs.Ytjgaaeomfilhoaa.gaussDiv
