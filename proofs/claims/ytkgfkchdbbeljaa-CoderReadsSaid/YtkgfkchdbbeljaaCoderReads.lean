/-
  Proved: for every input the law CoderReads returns true, and leaves its arguments as they were. No condition.
-/
import Derived.Test.YtkgfkchdbbeljaaRows
import Derived.WalkKit
import Derived.ProofKit
import Derived.OpenShut
import Derived.ShutString
import Derived.ChangeOld
import Derived.Below
import Derived.Test.YtkgfkchdbbeljaaCdArg
import Derived.Test.YtkgfkchdbbeljaaCdMore
namespace Go.Proofs.Ytkgfkchdbbeljaa.coderReads
open Go.ChangeShapes Go.WideShapes Go.ChangeAt Go.RowKit
open Go.ChangeMaps (open_string shut_string)
set_option linter.unusedVariables false

theorem own : ownKnob Try.prog.godebug = none := by kernel_rfl
theorem laidOut : laidOutB Try.prog = true := by kernel_rfl

open Go.Proofs.Ytkgfkchdbbeljaa.Gf Go.Proofs.Ytkgfkchdbbeljaa.Mx Go.Proofs.Ytkgfkchdbbeljaa.Cd
set_option maxRecDepth 100000 in
set_option maxHeartbeats 4000000 in
theorem main (k n : Nat) (hk : k < 256) (hn : n < 256) (p : Option Addr) (l cl : Nat) (t : Nat → ByteArray) (q : Option Addr) (m cm : Nat) (f : Nat → K) (a : Nat) (ha : a < 256) (w : World) (hS : StrIn w p l cl t) (hF : BytIn w q m cm f) :
    Calls Try.prog 3 #[.int .u8 (k : Int), .int .u8 (n : Int), .slice p l cl, .slice q m cm, .int .u8 (a : Int)] w fun e w' => e = .returned (.bool true) ∧ Below w.heap.size w w' := by
  have HS := Lib.hid hS.1; have HLm := Lib.hid hS.2.1; have HF := Lib.hid hF.1
  have hmm := hF.2.1
  unfold maxLen at hmm
  clear hS hF
  go_enter Try.func3, Try.ntmps3
  go_wp2_with fail
  refine (awake_any _).mono ?_
  rintro e w1 ⟨rfl, hb1⟩
  have HB1 := Lib.hid hb1; clear hb1
  go_wp2_with fail
  refine (few_any p l cl t _ HLm.out (HS.out.below HB1.out)).mono ?_
  rintro e w2 ⟨b, rfl, hfew, hw⟩
  obtain rfl : w1 = w2 := hw.symm
  clear hw
  cases b with
  | false =>
    clear hfew
    go_wp2_with fail
    refine (awake_any _).mono ?_
    rintro e w3 ⟨rfl, hb3⟩
    have HB3 := Lib.hid (Below.next HB1.out hb3); clear hb3
    go_wp2_with fail
    go_ret
    exact ⟨rfl, HB3.out⟩
  | true =>
    have HFw := Lib.hid (hfew.1 rfl); clear hfew
    by_cases h200 : 200 < m
    · have d1 : decide ((200 : Int) < (m : Int)) = true := by simp; omega
      go_wp2_with fail
      refine (awake_any _).mono ?_
      rintro e w3 ⟨rfl, hb3⟩
      have HB3 := Lib.hid (Below.next HB1.out hb3); clear hb3
      go_wp2_with fail
      go_ret
      exact ⟨rfl, HB3.out⟩
    · have d1 : decide ((200 : Int) < (m : Int)) = false := by simp; omega
      by_cases hkn : 1 ≤ k ∧ k ≤ n ∧ n ≤ 16
      · obtain ⟨hk1, hkn, hn16⟩ := hkn
        go_wp2_with fail
        refine (new_yes k n hk1 hkn hn16 _).mono ?_
        rintro e w3 ⟨c, fb, TB, r, x, rfl, hC, hb3⟩
        have HC := Lib.hid hC; have HB3 := Lib.hid (Below.next HB1.out hb3); clear hC hb3
        have HS3 := Lib.hid (HS.out.below HB3.out)
        by_cases hmk : l = k ∧ Ev l t
        · obtain ⟨hlk, hev⟩ := hmk
          subst hlk
          have HEv := Lib.hid hev; clear hev
          have hsz : (t 0).size ≤ 4096 := by have := HFw.out.2.1 0 (by omega); omega
          obtain ⟨B, O, hp, _⟩ := HS3.out (by omega)
          subst hp
          generalize hms : (t 0).size = M at *
          have HMs := Lib.hid hms; clear hms
          have HZ : Hid (∀ j, j < l → (t j).size = M) := fun j hj => by rw [HEv.out j hj, HMs.out]
          go_wp2_with fail
          refine (make_yes c l n fb TB r x B O cl M t _ HC.out HS3.out HZ.out hsz).mono ?_
          rintro e w4 ⟨B4, cap4, rfl, hcap4, hS4, hb4⟩
          have HS4 := Lib.hid hS4; have HB4 := Lib.hid (Below.next HB3.out hb4); have HC4 := Lib.hid (HC.out.below hb4); clear hS4 hb4 HC HS3
          go_wp2_with fail
          refine (picked_any B4 0 n cap4 _ q m cm f _ (by omega) hn16 (by omega) HS4.out (HF.out.below HB4.out)).mono ?_
          rintro e w5 ⟨q5, L, cap5, z, u, rfl, hcap5, hLm, hP5, hK5, hb5⟩
          have HP5 := Lib.hid hP5; have HK5 := Lib.hid hK5; have HFit := Lib.hid (pkd_fit hK5)
          have HS5 := Lib.hid (HS4.out.below hb5); have HB5 := Lib.hid (Below.next HB4.out hb5); have HC5 := Lib.hid (HC4.out.below hb5); clear hP5 hK5 hb5 HC4 HS4
          by_cases hLk : L < l
          · have d2 : (L : Int) < (l : Int) := by omega
            go_wp2_with fail
            refine (read_few c l n fb TB r x q5 L cap5 z u _ (by omega) HC5.out HP5.out HFit.out hLk).mono ?_
            rintro e w6 ⟨rfl, hb6⟩
            have HB6 := Lib.hid (Below.next HB5.out hb6); clear hb6
            go_wp2_with fail
            go_ret
            exact ⟨rfl, HB6.out⟩
          · have d2 : decide ((L : Int) < (l : Int)) = false := by simp; omega
            have d2' : decide (L < l) = false := by simp; omega
            have HU0 : Hid ((u 0).size = M) := by show _ = _; rw [(HK5.out.1 0 (by omega)).2.2, pc_size]
            go_wp2_with fail
            refine (read_yes c l n fb TB r x q5 L cap5 M z u _ (by omega) hcap5 HC5.out HP5.out HFit.out (by omega) hsz HU0.out).mono ?_
            rintro e w6 ⟨y, B6, hy, rfl, hS6, hb6⟩
            have HS6 : Hid (Strs w6 (some ⟨B6, 0, none⟩) l t) := hS6.congr fun i hi => pkd_read HK5.out (by omega) hy HZ.out hi
            have HB6 := Lib.hid (Below.next HB5.out hb6); have HC6 := Lib.hid (HC5.out.below hb6); have HP6 := Lib.hid (HP5.out.below hb6); have HS6' := Lib.hid (HS5.out.below hb6)
            clear hS6 hb6 hy HC5 HP5 HS5
            have n1 : ((n : Int) == 0) = false := by simp; omega
            have m0 : 0 ≤ (a : Int) % (n : Int) := Int.emod_nonneg _ (by omega)
            have m1 : (a : Int) % (n : Int) < (n : Int) := Int.emod_lt_of_pos _ (by omega)
            go_wp2_with fail
            refine (again_int c l n fb TB r x q5 L cap5 M z u _ _ (by omega) hcap5 HC6.out HP6.out HFit.out (by omega) hsz HU0.out m0 m1).mono ?_
            rintro e w7 ⟨y', hy', rfl, hb7⟩
            have HE : Hid (pc l M x (pc l M y' u) ((a : Int) % (n : Int)).toNat = pc l M x t ((a : Int) % (n : Int)).toNat) := pc_congr (fun _ _ => rfl) fun j hj => pkd_read HK5.out (by omega) hy' HZ.out hj
            have HB7 := Lib.hid (Below.next HB6.out hb7); have HC7 := Lib.hid (HC6.out.below hb7); have HS7 := Lib.hid (HS6'.out.below hb7); have HT7 := Lib.hid (HS6.out.below hb7)
            have HL7 := Lib.hid (HS.out.below HB7.out)
            clear hb7 hy' HC6 HP6 HS6' HS6
            rw [HE.out, show ((a : Int) % (n : Int)).toNat = a % n from by rw [← Int.natCast_emod, Int.toNat_natCast]]
            have ca : w7.cell? ⟨B4, a % n, none⟩ = some (.string (pc l M x t (a % n))) := by
              have := HS7.out.at_ (i := a % n) (Nat.mod_lt _ (by omega)); rwa [Nat.zero_add] at this
            clear HE
            generalize pc l M x t (a % n) = s at ca ⊢
            go_wp2_with fail
            refine (right_of c l n fb TB r x B4 0 cap4 M t (pc l M x t) _ HC7.out HS7.out hcap4 HZ.out hsz (fun _ _ => rfl)).mono ?_
            rintro e w8 ⟨rfl, hb8⟩
            have HB8 := Lib.hid (Below.next HB7.out hb8); have HS8 := Lib.hid (HS7.out.below hb8); have HT8 := Lib.hid (HT7.out.below hb8)
            have HL8 := Lib.hid (HS.out.below HB8.out)
            have HFi : Hid (∀ i, i < l → pc l M x t i = t i) := fun i hi => HC7.out.cod.first hkn hi (HZ.out i hi)
            clear hb8 ca HC7 HS7 HT7 HL7 n1 m0 m1
            go_wp2_with fail
            go_loopw [20] (fun I wr => RelEq l w8 I wr) (fun I _ => l - (intOf I).toNat)
            case atStart => exact ⟨0, 0, by omega, rfl, rfl⟩
            case round =>
              obtain ⟨i, g, hi, rfl, hw⟩ := hrel
              have HW := Lib.hid hw; clear hw
              by_cases hlt : i < l
              · have i0 : (i : Int) < (l : Int) := by omega
                have i1 : (i : Int) < (n : Int) := by omega
                have c1 : wr.cell? ⟨B6, i, none⟩ = some (.string (t i)) := by rw [HW.out]; have := HT8.out.at_ hlt; rwa [Nat.zero_add] at this
                have c2 : wr.cell? ⟨B, O + i, none⟩ = some (.string (t i)) := by rw [HW.out]; exact HL8.out.at_ hlt
                have c3 : wr.cell? ⟨B4, i, none⟩ = some (.string (t i)) := by rw [HW.out]; have := HS8.out.at_ (i := i) (by omega); rw [HFi.out i hlt] at this; rwa [Nat.zero_add] at this
                generalize t i = ti at c1 c2 c3
                go_wp2_with fail
                go_quiet (fail)
                go_wp2
                go_roundw
                case rel => exact ⟨i + 1, _, by omega, by go_num, by rw [HW.out, World.drewN_drewN]⟩
                case measure => simp [intOf]; omega
              · obtain rfl : l = i := by omega
                go_wp2
                go_ret
                exact ⟨rfl, by rw [HW.out]; exact below_drewN HB8.out _⟩
        · have HMk : Hid (l ≠ k ∨ ¬ Ev l t) := by
            by_cases e : l = k
            · exact Or.inr fun h => hmk ⟨e, h⟩
            · exact Or.inl e
          clear hmk
          go_wp2_with fail
          refine (make_no c k n fb TB r x p l cl t _ (by have := HFw.out.1; omega) HC.out HS3.out HMk.out).mono ?_
          rintro e w4 ⟨rfl, hw⟩
          obtain rfl : w3 = w4 := hw.symm
          clear hw
          go_wp2_with fail
          go_ret
          exact ⟨rfl, HB3.out⟩
      · have HNo : Hid ((k : Int) < 1 ∨ (n : Int) < (k : Int) ∨ (16 : Int) < (n : Int)) := by show _ ∨ _; omega
        clear hkn
        go_wp2_with fail
        refine (new_no _ _ HNo.out _).mono ?_
        rintro e w3 ⟨rfl, hw⟩
        obtain rfl : w1 = w3 := hw.symm
        clear hw
        go_wp2_with fail
        refine (make_nil p l cl _).mono ?_
        rintro e w4 ⟨rfl, hw⟩
        obtain rfl : w1 = w4 := hw.symm
        clear hw
        go_wp2_with fail
        go_ret
        exact ⟨rfl, HB1.out⟩
/-! ### STEP 1: THE WALK: the Go text returns true, AND WRITES NOTHING THAT WAS THERE: 'Below w.heap.size w w'' (Derived/Below.lean: '.refl', '.alloc', '.drew', '.setCell' at a new block, '.trans'). Open each 'IsRow' by 'rcases' AHEAD of 'go_enter'; part every test ahead of the walk. -/
theorem walk (a0 : Int) (a1 : Int) (a2 : Option Addr) (len2 cap2 : Nat) (z2 : (Nat → ByteArray)) (a3 : Option Addr) (len3 cap3 : Nat) (z3 : (Nat → Mx.K)) (a4 : Int) (w : World) (w0 : (Lit.int .u8 a0).wf = true) (w1 : (Lit.int .u8 a1).wf = true) (w2 : Cd.StrIn w a2 len2 cap2 z2) (w3 : Cd.BytIn w a3 len3 cap3 z3) (w4 : (Lit.int .u8 a4).wf = true) :
    Calls Try.prog 3 #[.int .u8 a0, .int .u8 a1, .slice a2 len2 cap2, .slice a3 len3 cap3, .int .u8 a4] w fun e w' => e = .returned (.bool true) ∧ Below w.heap.size w w' := by
  obtain ⟨k, rfl, hk⟩ := u8_nat w0
  obtain ⟨n, rfl, hn⟩ := u8_nat w1
  obtain ⟨a, rfl, ha⟩ := u8_nat w4
  exact main k n hk hn a2 len2 cap2 z2 a3 len3 cap3 z3 a ha w w2 w3

/-! ### THE ROW's STEP: WRITTEN OUT: LEAVE IT -/
set_option maxRecDepth 100000 in
theorem lifted (os : Os) (started : os.Started) (H : Type) (enc : TypeId × Value → H) :
    ReturnsInHanded {} Try.checked os 3 .any (Rows.coderReadsSpec.pre6 enc Try.prog Try.f3 Rows.coderReadsRow.domain false) (Rows.coderReadsSpec.post enc Try.prog Try.f3 false true false false) := by
  refine returnsInHanded_of_change (C := Try.checked) own started (by kernel_rfl) Try.func3
    (ChangeSpec.witness6 (enc := enc) (C := Try.checked) false ⟨#[], #[.int .u8 0, .int .u8 0, .slice none 0 0, .slice none 0 0, .int .u8 0], []⟩ 8 (by kernel_rfl) (by kernel_rfl) (by kernel_rfl) (by kernel_rfl)) ?_
  intro W base args ds gs before hval0 hW hcnd _
  have hval : ∀ (j : Nat) t v, Try.f3.params[j]? = some t → args[j]? = some v → Value.okWide Try.prog W .any base t v := hval0
  have hW' := hW
  obtain ⟨p, q, hA0, hV, rfl, hfz, hnd⟩ := hW
  have hA : DataW.TrodAll enc Try.prog W 0 (fun _ => true) true Try.f3.params.toList args.toList ds p := hA0
  rw [Try.params3] at hA hval
  obtain ⟨v0, vs0, d0, ds0, p0, q0, hargs, rfl, rfl, h0, r0⟩ := trodAll_cons hA
  obtain ⟨v1, vs1, d1, ds1, p1, q1, rfl, rfl, rfl, h1, r1⟩ := trodAll_cons r0
  obtain ⟨v2, vs2, d2, ds2, p2, q2, rfl, rfl, rfl, h2, r2⟩ := trodAll_cons r1
  obtain ⟨v3, vs3, d3, ds3, p3, q3, rfl, rfl, rfl, h3, r3⟩ := trodAll_cons r2
  obtain ⟨v4, vs4, d4, ds4, p4, q4, rfl, rfl, rfl, h4, r4⟩ := trodAll_cons r3
  obtain ⟨rfl, rfl, rfl⟩ := trodAll_nil r4
  obtain rfl : args = #[v0, v1, v2, v3, v4] := by cases args; simp_all
  obtain ⟨rfl, rfl⟩ := trodVars_none hV
  obtain ⟨a0, rfl, rfl, rfl, w0⟩ := open_int Try.underlying5 (hval 0 5 v0 rfl rfl) h0
  obtain ⟨a1, rfl, rfl, rfl, w1⟩ := open_int Try.underlying5 (hval 1 5 v1 rfl rfl) h1
  obtain ⟨a2, len2, cap2, rfl⟩ := okWide_slice Try.underlying22 (hval 2 22 v2 rfl rfl)
  have k2 := h2
  have lt2 : ∀ x ∈ p2, x.block < W.heap.size := by obtain ⟨m, hm⟩ := k2; exact DataW.trod_lt m _ _ _ hm
  obtain ⟨z2, w2⟩ : ∃ z : (Nat → ByteArray), Cd.StrIn W a2 len2 cap2 z := Cd.strs_of h2
  obtain ⟨a3, len3, cap3, rfl⟩ := okWide_slice Try.underlying23 (hval 3 23 v3 rfl rfl)
  have k3 := h3
  have lt3 : ∀ x ∈ p3, x.block < W.heap.size := by obtain ⟨m, hm⟩ := k3; exact DataW.trod_lt m _ _ _ hm
  obtain ⟨z3, w3⟩ : ∃ z : (Nat → Mx.K), Cd.BytIn W a3 len3 cap3 z := Cd.byts_of h3
  obtain ⟨a4, rfl, rfl, rfl, w4⟩ := open_int Try.underlying5 (hval 4 5 v4 rfl rfl) h4
  clear hA0 hval0
  refine (walk a0 a1 a2 len2 cap2 z2 a3 len3 cap3 z3 a4 W w0 w1 w2 w3 w4).mono fun e W' ⟨he, bel⟩ => ?_
  subst he
  exact ⟨_, rfl, _, _, _, [], _, [], hW', trodAll_mk1 (shut_bool Try.underlying4 _), (trodAll_cons_mk (shut_int Try.underlying5 w0) (trodAll_cons_mk (shut_int Try.underlying5 w1) (trodAll_cons_mk (Below.trod laidOut (by kernel_rfl) (of_decide_eq_true (by kernel_rfl)) k2 bel lt2) (trodAll_cons_mk (Below.trod laidOut (by kernel_rfl) (of_decide_eq_true (by kernel_rfl)) k3 bel lt3) (trodAll_cons_mk (shut_int Try.underlying5 w4) trodAll_mk0))))), rfl, bel.frame _, fun h => by cases h⟩

theorem over : Rows.coderReadsRow.holds Try.pinned (OpenSpec.ofChange Rows.coderReadsSpec) :=
  OpenClaim.holds_of_wide 3 Try.f3 rfl rfl rfl rfl rfl rfl rfl ⟨rfl, rfl, rfl, rfl, rfl⟩ rfl rfl rfl rfl rfl (by kernel_rfl) Try.func3 (by kernel_rfl)
    (of_decide_eq_true (by kernel_rfl)) (by unfold Func.isWrapper; first | (rw [if_pos (by decide +kernel)]; kernel_rfl) | (rw [if_neg (by decide +kernel)]; exact ⟨rfl, rfl⟩))
    (fun os started H enc _ => lifted os started H enc)

/-- ████ THE STATEMENT ████ -/
theorem proved : Rows.CoderReadsSaid := over
#print axioms proved
end Go.Proofs.Ytkgfkchdbbeljaa.coderReads
