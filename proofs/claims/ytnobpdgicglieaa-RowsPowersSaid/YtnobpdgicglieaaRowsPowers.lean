/-
  Proved: for every input the law RowsPowers returns true, and leaves its arguments as they were. No condition.
-/
import Derived.Test.YtnobpdgicglieaaRows
import Derived.WalkKit
import Derived.ProofKit
import Derived.OpenShut
import Derived.ShutString
import Derived.ChangeOld
import Derived.Below
import Derived.Test.YtnobpdgicglieaaMxArg
namespace Go.Proofs.Ytnobpdgicglieaa.rowsPowers
open Go.ChangeShapes Go.WideShapes Go.ChangeAt Go.RowKit
open Go.ChangeMaps (open_string shut_string)
set_option linter.unusedVariables false

theorem own : ownKnob Try.prog.godebug = none := by kernel_rfl
theorem laidOut : laidOutB Try.prog = true := by kernel_rfl

/-- WHAT THE WALK IS TOLD OF A SLICE OF INTEGERS THAT CAME IN: it is nil; or it leads to a row of 'cap' cells, the numbers 'zs' (the first 'len' are its elements, the rest its spare room), each fitting its kind. -/
def IsRow (k : IntKind) (w : World) (a : Option Addr) (len cap : Nat) (zs : List Int) : Prop :=
  (a = none ∧ len = 0 ∧ cap = 0 ∧ zs = []) ∨
  ∃ x, a = some x ∧ len ≤ cap ∧ cap ≤ maxLen ∧ zs.length = cap ∧ (∀ i, i < zs.length → w.cell? (x.add i) = some (.int k (zs.getD i 0))) ∧ ∀ n ∈ zs, (Lit.int k n).wf = true

open Go.Proofs.Ytnobpdgicglieaa.Gf Go.Proofs.Ytnobpdgicglieaa.Mx
theorem row_ints {w : World} {a : Option Addr} {len cap : Nat} {z : List Int} (h : IsRow .i64 w a len cap z) : len ≤ maxLen ∧ Ints w a len (fun i => z.getD i 0) := by
  rcases h with ⟨_, rfl, _, _⟩ | ⟨x, rfl, h1, h2, h3, h4, h5⟩
  · exact ⟨Nat.zero_le _, fun h => absurd h (Nat.lt_irrefl 0)⟩
  · refine ⟨Nat.le_trans h1 h2, fun hl => ?_⟩
    obtain ⟨b, off, rfl, hc⟩ := ints_at h4 (by omega)
    exact ⟨b, off, rfl, fun i hi => hc i (by omega)⟩
def Fit (n k : Nat) : Prop := 1 ≤ n ∧ n ≤ 32 ∧ 1 ≤ k ∧ k ≤ 32
set_option maxRecDepth 100000 in
set_option maxHeartbeats 1000000 in
theorem out (n k : Nat) (p : Option Addr) (nl cl : Nat) (w : World) (hn : n < 256) (hk : k < 256) (h : n < 1 ∨ 32 < n ∨ k < 1 ∨ 32 < k) :
    Calls Try.prog 5 #[.int .u8 (n : Int), .int .u8 (k : Int), .slice p nl cl] w fun e w' => e = .returned (.bool true) ∧ Below w.heap.size w w' := by
  have H := Lib.hid h; clear h
  have hc : (decide ((1 : Int) ≤ (n : Int)) = false) ∨ (decide ((1 : Int) ≤ (n : Int)) = true ∧ decide ((n : Int) ≤ 32) = false) ∨ (decide ((1 : Int) ≤ (n : Int)) = true ∧ decide ((n : Int) ≤ 32) = true ∧ decide ((1 : Int) ≤ (k : Int)) = false) ∨ (decide ((1 : Int) ≤ (n : Int)) = true ∧ decide ((n : Int) ≤ 32) = true ∧ decide ((1 : Int) ≤ (k : Int)) = true ∧ decide ((k : Int) ≤ 32) = false) := by
    have := H.out
    simp only [decide_eq_true_eq, decide_eq_false_iff_not]
    omega
  rcases hc with t1 | ⟨t1, t2⟩ | ⟨t1, t2, t3⟩ | ⟨t1, t2, t3, t4⟩
  all_goals
    go_enter Try.func5, Try.ntmps5
    go_wp2_with fail
    refine (powers_no _ _ (by have := H.out; omega) _).mono ?_
    rintro e w1 ⟨rfl, hw1⟩
    obtain rfl : w = w1 := hw1.symm
    go_wp2_with fail
    refine (awake_any _).mono ?_
    rintro e w2 ⟨rfl, hb2⟩
    have HB2 := Lib.hid hb2; clear hb2
    go_wp2_with fail
    go_ret
    exact ⟨rfl, HB2.out⟩
set_option maxRecDepth 100000 in
set_option maxHeartbeats 1000000 in
theorem unlike (n k : Nat) (p : Option Addr) (nl cl : Nat) (w : World) (hn : 1 ≤ n) (hn' : n ≤ 32) (hk : 1 ≤ k) (hk' : k ≤ 32) (hl : nl ≤ maxLen) (h : nl ≠ k) :
    Calls Try.prog 5 #[.int .u8 (n : Int), .int .u8 (k : Int), .slice p nl cl] w fun e w' => e = .returned (.bool true) ∧ Below w.heap.size w w' := by
  unfold maxLen at hl
  have t1 : ((nl : Int) != (k : Int)) = true := by simp; omega
  have t1' : (nl != k) = true := by simpa using h
  have t2 : ((n : Int) == 0) = false := by simp; omega
  have t2' : (n == 0) = false := by simp; omega
  have d1 : decide ((1 : Int) ≤ (n : Int)) = true := by simp; omega
  have d2 : decide ((n : Int) ≤ 32) = true := by simp; omega
  have d3 : decide ((1 : Int) ≤ (k : Int)) = true := by simp; omega
  have d4 : decide ((k : Int) ≤ 32) = true := by simp; omega
  clear h
  go_enter Try.func5, Try.ntmps5
  go_wp2_with fail
  refine (powers_yes n k hn hn' hk hk' _).mono ?_
  rintro e w1 ⟨B1, r1, rfl, ho1, hb1⟩
  have HB1 := Lib.hid hb1; clear ho1 hb1
  go_wp2_with fail
  refine (awake_any _).mono ?_
  rintro e w2 ⟨rfl, hb2⟩
  have HB2 := Lib.hid hb2; clear hb2
  go_wp2_with fail
  go_ret
  exact ⟨rfl, Below.next HB1.out HB2.out⟩
/-- The first i numbers are unlike; the next one is unlike the first j. -/
def Apart (z : Nat → Int) (i : Nat) : Prop := ∀ a, a < i → ∀ b, b < a → z a ≠ z b
def RelA (z : Nat → Int) (k : Nat) (w : World) (I : Value) (wr : World) : Prop := ∃ i q : Nat, i ≤ k ∧ Apart z i ∧ I = .int .i64 (i : Int) ∧ wr = w.drewN q
def RelB (z : Nat → Int) (i : Nat) (w : World) (J : Value) (wr : World) : Prop := ∃ j q : Nat, j ≤ i ∧ (∀ b, b < j → z i ≠ z b) ∧ J = .int .i64 (j : Int) ∧ wr = w.drewN q
set_option maxRecDepth 100000 in
set_option maxHeartbeats 2000000 in
theorem alike (n k : Nat) (Q T cl : Nat) (z : Nat → Int) (w : World) (hn : 1 ≤ n) (hn' : n ≤ 32) (hk : 1 ≤ k) (hk' : k ≤ 32) (hI : Ints w (some ⟨Q, T, none⟩) k z) :
    Calls Try.prog 5 #[.int .u8 (n : Int), .int .u8 (k : Int), .slice (some ⟨Q, T, none⟩) k cl] w fun e w' => e = .returned (.bool true) ∧ Below w.heap.size w w' := by
  have HI := Lib.hid hI; clear hI
  have d1 : decide ((1 : Int) ≤ (n : Int)) = true := by simp; omega
  have d2 : decide ((n : Int) ≤ 32) = true := by simp; omega
  have d3 : decide ((1 : Int) ≤ (k : Int)) = true := by simp; omega
  have d4 : decide ((k : Int) ≤ 32) = true := by simp; omega
  go_enter Try.func5, Try.ntmps5
  go_wp2_with fail
  refine (powers_yes n k hn hn' hk hk' _).mono ?_
  rintro e w1 ⟨B1, r1, rfl, ho1, hb1⟩
  have HO1 := Lib.hid ho1.mat; have HB1 := Lib.hid hb1; clear ho1 hb1
  go_wp2_with fail
  refine (awake_any _).mono ?_
  rintro e w2 ⟨rfl, hb2⟩
  have HO2 := Lib.hid (HO1.out.below hb2); have HB2 := Lib.hid (Below.next HB1.out hb2); clear hb2
  have HI2 := Lib.hid (HI.out.below HB2.out)
  have hc : ∀ i, i < k → w2.cell? ⟨Q, T + i, none⟩ = some (.int .i64 (z i)) := by
    obtain ⟨Q', T', e, hc⟩ := HI2.out (by omega)
    injection e with e
    injection e with e1 e2
    subst e1; subst e2
    exact hc
  have HC := Lib.hid hc; clear hc
  go_wp2_with fail
  go_loopw [9] (fun I wr => RelA z k w2 I wr) (fun I _ => k - (intOf I).toNat)
  case atStart => exact ⟨0, 0, by omega, fun a h => by omega, rfl, rfl⟩
  case round =>
    obtain ⟨i, q, hi, hA, rfl, hw⟩ := hrel
    have HA := Lib.hid hA; have HW := Lib.hid hw; clear hA hw
    by_cases hlt : i < k
    · have i0 : (i : Int) < (k : Int) := by omega
      go_wp2_with fail
      generalize wr = wo at *
      go_loopw [10] (fun J wi => RelB z i wo J wi) (fun J _ => i - (intOf J).toNat)
      case atStart => exact ⟨0, 0, by omega, fun a h => by omega, rfl, rfl⟩
      case round =>
        obtain ⟨j, q2, hj, hN, rfl, hw⟩ := hrel
        have HN := Lib.hid hN; have HV := Lib.hid hw; clear hN hw
        have HX : Hid (wr = w2.drewN (q + q2)) := by show _ = _; rw [HV.out, HW.out, World.drewN_drewN]
        by_cases hll : j < i
        · have ci : wr.cell? ⟨Q, T + i, none⟩ = some (.int .i64 (z i)) := by rw [HX.out]; exact HC.out i hlt
          have cj : wr.cell? ⟨Q, T + j, none⟩ = some (.int .i64 (z j)) := by rw [HX.out]; exact HC.out j (by omega)
          have j0 : (j : Int) < (i : Int) := by omega
          have j1 : (j : Int) < (k : Int) := by omega
          by_cases he : z i = z j
          · rw [← he] at cj
            clear he
            generalize z i = u at ci cj
            go_wp2_with fail
            go_quiet (fail)
            go_wp2
            go_ret
            exact ⟨rfl, by rw [HX.out]; exact below_drewN (below_drewN HB2.out _) _⟩
          · have t : (z i == z j) = false := by simpa using he
            have HE := Lib.hid he; clear he
            generalize z i = u at ci t
            generalize z j = v at cj t
            go_wp2_with fail
            go_quiet (fail)
            go_wp2
            go_roundw
            case rel => exact ⟨j + 1, _, by omega, fun b hb => by
              by_cases e : b = j
              · subst e; exact HE.out
              · exact HN.out b (by omega), by go_num, by rw [HV.out, World.drewN_drewN]⟩
            case measure => simp [intOf]; omega
        · obtain rfl : j = i := by omega
          go_wp2
          go_roundw
          case rel => exact ⟨j + 1, _, by omega, fun a ha b hb => by
            by_cases e : a = j
            · subst e; exact HN.out b hb
            · exact HA.out a (by omega) b hb, by go_num, HX.out⟩
          case measure => simp [intOf]; omega
    · obtain rfl : i = k := by omega
      have HB3 : Hid (Below w.heap.size w wr) := by rw [HW.out]; exact below_drewN HB2.out q
      have HO3 : Hid (Mat wr B1 0 n i r1 (fun _ => 0) (fun _ => i) (fun a b => kp (kb a) b)) := by rw [HW.out]; exact HO2.out.drewN q
      have HI3 : Hid (Ints wr (some ⟨Q, T, none⟩) i z) := by rw [HW.out]; exact HI2.out
      go_wp2_with fail
      refine (pick_any _ _ n i _ _ _ _ (fun a b => kp (kb a) b) _ i _ z _ hn hn' hk hk' hk hk' HO3.out HI3.out).mono ?_
      rintro e w4 ⟨hyes, hno⟩
      by_cases hin : InL n i z
      · obtain ⟨B4, r4, rfl, ho4, hb4⟩ := hyes hin
        have HO4 := Lib.hid ho4.mat; have HB4 := Lib.hid hb4; have HIN := Lib.hid hin; clear ho4 hb4 hyes hno hin
        go_wp2_with fail
        refine (undo_any _ _ i _ _ _ _ _ _ hk hk' HO4.out).mono ?_
        rintro e w5 (⟨y, hy, B5, r5, rfl, ho5, hb5⟩ | ⟨hs, rfl, hb⟩)
        · have HB5 := Lib.hid hb5; clear hy ho5 hb5
          go_wp2_with fail
          go_ret
          exact ⟨rfl, Below.next (Below.next HB3.out HB4.out) HB5.out⟩
        · refine absurd hs (powers_not_sing i (fun a => kb (z a).toNat) fun a ha b hb e => ?_)
          have e1 := congrArg K.n e
          have h1 := HIN.out a ha
          have h2 := HIN.out b hb
          have e2 : (z a).toNat % 256 = (z b).toNat % 256 := e1
          have e3 : z a = z b := by omega
          rcases Nat.lt_trichotomy a b with h | h | h
          · exact absurd e3.symm (HA.out b hb a h)
          · exact h
          · exact absurd e3 (HA.out a ha b h)
      · obtain ⟨rfl, hb4⟩ := hno hin
        have HB4 := Lib.hid hb4; clear hb4 hyes hno hin
        go_wp2_with fail
        go_ret
        exact ⟨rfl, Below.next HB3.out HB4.out⟩
/-! ### STEP 1: THE WALK: the Go text returns true, AND WRITES NOTHING THAT WAS THERE: 'Below w.heap.size w w'' (Derived/Below.lean: '.refl', '.alloc', '.drew', '.setCell' at a new block, '.trans'). Open each 'IsRow' by 'rcases' AHEAD of 'go_enter'; part every test ahead of the walk. -/
theorem walk (a0 : Int) (a1 : Int) (a2 : Option Addr) (len2 cap2 : Nat) (z2 : List Int) (w : World) (w0 : (Lit.int .u8 a0).wf = true) (w1 : (Lit.int .u8 a1).wf = true) (w2 : IsRow .i64 w a2 len2 cap2 z2) :
    Calls Try.prog 5 #[.int .u8 a0, .int .u8 a1, .slice a2 len2 cap2] w fun e w' => e = .returned (.bool true) ∧ Below w.heap.size w w' := by
  obtain ⟨n, rfl, hn⟩ := u8_nat w0
  obtain ⟨k, rfl, hk⟩ := u8_nat w1
  obtain ⟨hl, hI⟩ := row_ints w2
  by_cases hf : n < 1 ∨ 32 < n ∨ k < 1 ∨ 32 < k
  · exact out n k a2 len2 cap2 w hn hk hf
  by_cases hq : len2 = k
  · subst hq
    obtain ⟨Q, T, rfl, _⟩ := hI (by omega)
    exact alike n len2 Q T cap2 _ w (by omega) (by omega) (by omega) (by omega) hI
  · exact unlike n k a2 len2 cap2 w (by omega) (by omega) (by omega) (by omega) hl hq

/-! ### THE ROW's STEP: WRITTEN OUT: LEAVE IT -/
set_option maxRecDepth 100000 in
theorem lifted (os : Os) (started : os.Started) (H : Type) (enc : TypeId × Value → H) :
    ReturnsInHanded {} Try.checked os 5 .any (Rows.rowsPowersSpec.pre6 enc Try.prog Try.f5 Rows.rowsPowersRow.domain false) (Rows.rowsPowersSpec.post enc Try.prog Try.f5 false true false false) := by
  refine returnsInHanded_of_change (C := Try.checked) own started (by kernel_rfl) Try.func5
    (ChangeSpec.witness6 (enc := enc) (C := Try.checked) false ⟨#[], #[.int .u8 0, .int .u8 0, .slice none 0 0], []⟩ 8 (by kernel_rfl) (by kernel_rfl) (by kernel_rfl) (by kernel_rfl)) ?_
  intro W base args ds gs before hval0 hW hcnd _
  have hval : ∀ (j : Nat) t v, Try.f5.params[j]? = some t → args[j]? = some v → Value.okWide Try.prog W .any base t v := hval0
  have hW' := hW
  obtain ⟨p, q, hA0, hV, rfl, hfz, hnd⟩ := hW
  have hA : DataW.TrodAll enc Try.prog W 0 (fun _ => true) true Try.f5.params.toList args.toList ds p := hA0
  rw [Try.params5] at hA hval
  obtain ⟨v0, vs0, d0, ds0, p0, q0, hargs, rfl, rfl, h0, r0⟩ := trodAll_cons hA
  obtain ⟨v1, vs1, d1, ds1, p1, q1, rfl, rfl, rfl, h1, r1⟩ := trodAll_cons r0
  obtain ⟨v2, vs2, d2, ds2, p2, q2, rfl, rfl, rfl, h2, r2⟩ := trodAll_cons r1
  obtain ⟨rfl, rfl, rfl⟩ := trodAll_nil r2
  obtain rfl : args = #[v0, v1, v2] := by cases args; simp_all
  obtain ⟨rfl, rfl⟩ := trodVars_none hV
  obtain ⟨a0, rfl, rfl, rfl, w0⟩ := open_int Try.underlying5 (hval 0 5 v0 rfl rfl) h0
  obtain ⟨a1, rfl, rfl, rfl, w1⟩ := open_int Try.underlying5 (hval 1 5 v1 rfl rfl) h1
  obtain ⟨a2, len2, cap2, rfl⟩ := okWide_slice Try.underlying33 (hval 2 33 v2 rfl rfl)
  have k2 := h2
  have lt2 : ∀ x ∈ p2, x.block < W.heap.size := by obtain ⟨m, hm⟩ := k2; exact DataW.trod_lt m _ _ _ hm
  obtain ⟨z2, w2⟩ : ∃ zs, IsRow .i64 W a2 len2 cap2 zs := by
    obtain ⟨fuel, hf⟩ := h2
    rcases open_ints Try.underlying33 Try.underlying3 (by kernel_rfl) hf with ⟨hcs, _⟩ | ⟨x, l, c, zs, hcs, _, hl, hm, hz, _, hcell, hwz⟩
    · simp [Value.cells] at hcs
      obtain ⟨rfl, rfl, rfl⟩ := hcs
      exact ⟨[], .inl ⟨rfl, rfl, rfl, rfl⟩⟩
    · simp [Value.cells] at hcs
      obtain ⟨rfl, rfl, rfl⟩ := hcs
      exact ⟨zs, .inr ⟨_, rfl, hl, hm, by simpa using hz, hcell, hwz⟩⟩
  clear hA0 hval0
  refine (walk a0 a1 a2 len2 cap2 z2 W w0 w1 w2).mono fun e W' ⟨he, bel⟩ => ?_
  subst he
  exact ⟨_, rfl, _, _, _, [], _, [], hW', trodAll_mk1 (shut_bool Try.underlying4 _), (trodAll_cons_mk (shut_int Try.underlying5 w0) (trodAll_cons_mk (shut_int Try.underlying5 w1) (trodAll_cons_mk (Below.trod laidOut (by kernel_rfl) (of_decide_eq_true (by kernel_rfl)) k2 bel lt2) trodAll_mk0))), rfl, bel.frame _, fun h => by cases h⟩

theorem over : Rows.rowsPowersRow.holds Try.pinned (OpenSpec.ofChange Rows.rowsPowersSpec) :=
  OpenClaim.holds_of_wide 5 Try.f5 rfl rfl rfl rfl rfl rfl rfl ⟨rfl, rfl, rfl, rfl, rfl⟩ rfl rfl rfl rfl rfl (by kernel_rfl) Try.func5 (by kernel_rfl)
    (of_decide_eq_true (by kernel_rfl)) (by unfold Func.isWrapper; first | (rw [if_pos (by decide +kernel)]; kernel_rfl) | (rw [if_neg (by decide +kernel)]; exact ⟨rfl, rfl⟩))
    (fun os started H enc _ => lifted os started H enc)

/-- ████ THE STATEMENT ████ -/
theorem proved : Rows.RowsPowersSaid := over
#print axioms proved
end Go.Proofs.Ytnobpdgicglieaa.rowsPowers
