/-
  Proved: for every input the law CoderAll returns true, and leaves its arguments as they were. No condition.
-/
import Derived.Test.YtkgfkchdbbeljaaRows
import Derived.WalkKit
import Derived.ProofKit
import Derived.OpenShut
import Derived.ShutString
import Derived.ChangeOld
import Derived.Below
import Derived.Test.YtkgfkchdbbeljaaCdArg
import Derived.Test.YtkgfkchdbbeljaaCdMore
namespace Go.Proofs.Ytkgfkchdbbeljaa.coderAll
open Go.ChangeShapes Go.WideShapes Go.ChangeAt Go.RowKit
open Go.ChangeMaps (open_string shut_string)
set_option linter.unusedVariables false

theorem own : ownKnob Try.prog.godebug = none := by kernel_rfl
theorem laidOut : laidOutB Try.prog = true := by kernel_rfl

open Go.Proofs.Ytkgfkchdbbeljaa.Gf Go.Proofs.Ytkgfkchdbbeljaa.Mx Go.Proofs.Ytkgfkchdbbeljaa.Cd
def RelAl (w : World) (n : Nat) (u : Nat → ByteArray) (V I : Value) (wr : World) : Prop := ∃ i : Nat, i ≤ n ∧ I = .int .i64 (i : Int) ∧ wr.ownsRow w.heap.size 9 1 V i (sl i u) ∧ Below w.heap.size w wr
set_option maxRecDepth 100000 in
set_option maxHeartbeats 4000000 in
theorem main (k n : Nat) (hk : k < 256) (hn : n < 256) (p : Option Addr) (l cl : Nat) (t : Nat → ByteArray) (q : Option Addr) (m cm : Nat) (f : Nat → K) (w : World) (hS : StrIn w p l cl t) (hF : BytIn w q m cm f) :
    Calls Try.prog 6 #[.int .u8 (k : Int), .int .u8 (n : Int), .slice p l cl, .slice q m cm] w fun e w' => e = .returned (.bool true) ∧ Below w.heap.size w w' := by
  have HS := Lib.hid hS.1; have HLm := Lib.hid hS.2.1; have HF := Lib.hid hF.1
  have hmm := hF.2.1
  unfold maxLen at hmm
  clear hS hF
  obtain ⟨iS, hiS, hzS, hsS, hbS⟩ := info_parts infoS
  have HIS := Lib.hid hiS; have HZS := Lib.hid hzS; have HSS := Lib.hid hsS; have HBS := Lib.hid hbS
  clear hiS hzS hsS hbS
  go_enter Try.func6, Try.ntmps6
  go_wp2_with fail
  refine (awake_any _).mono ?_
  rintro e w1 ⟨rfl, hb1⟩
  have HB1 := Lib.hid hb1; clear hb1
  go_wp2_with fail
  refine (few_any p l cl t _ HLm.out (HS.out.below HB1.out)).mono ?_
  rintro e w2 ⟨b, rfl, hfew, hw⟩
  obtain rfl : w1 = w2 := hw.symm
  clear hw
  cases b with
  | false =>
    clear hfew
    go_wp2_with fail
    refine (awake_any _).mono ?_
    rintro e w3 ⟨rfl, hb3⟩
    have HB3 := Lib.hid (Below.next HB1.out hb3); clear hb3
    go_wp2_with fail
    go_ret
    exact ⟨rfl, HB3.out⟩
  | true =>
    have HFw := Lib.hid (hfew.1 rfl); clear hfew
    by_cases h100 : 100 < m
    · have d1 : decide ((100 : Int) < (m : Int)) = true := by simp; omega
      go_wp2_with fail
      refine (awake_any _).mono ?_
      rintro e w3 ⟨rfl, hb3⟩
      have HB3 := Lib.hid (Below.next HB1.out hb3); clear hb3
      go_wp2_with fail
      go_ret
      exact ⟨rfl, HB3.out⟩
    · have d1 : decide ((100 : Int) < (m : Int)) = false := by simp; omega
      by_cases hkn : 1 ≤ k ∧ k ≤ n ∧ n ≤ 16
      · obtain ⟨hk1, hkn, hn16⟩ := hkn
        go_wp2_with fail
        refine (new_yes k n hk1 hkn hn16 _).mono ?_
        rintro e w3 ⟨c, fb, TB, r, x, rfl, hC, hb3⟩
        have HC := Lib.hid hC; have HB3 := Lib.hid (Below.next HB1.out hb3); clear hC hb3
        have HS3 := Lib.hid (HS.out.below HB3.out)
        by_cases hmk : l = k ∧ Ev l t
        · obtain ⟨hlk, hev⟩ := hmk
          subst hlk
          have HEv := Lib.hid hev; clear hev
          have hsz : (t 0).size ≤ 4096 := by have := HFw.out.2.1 0 (by omega); omega
          obtain ⟨B, O, hp, _⟩ := HS3.out (by omega)
          subst hp
          generalize hms : (t 0).size = M at *
          have HMs := Lib.hid hms; clear hms
          have HZ : Hid (∀ j, j < l → (t j).size = M) := fun j hj => by rw [HEv.out j hj, HMs.out]
          go_wp2_with fail
          refine (make_yes c l n fb TB r x B O cl M t _ HC.out HS3.out HZ.out hsz).mono ?_
          rintro e w4 ⟨B4, cap4, rfl, hcap4, hS4, hb4⟩
          have HS4 := Lib.hid hS4; have HB4 := Lib.hid (Below.next HB3.out hb4); have HC4 := Lib.hid (HC.out.below hb4); clear hS4 hb4 HC HS3
          go_wp2_with fail
          refine (picked_any B4 0 n cap4 _ q m cm f _ (by omega) hn16 (by omega) HS4.out (HF.out.below HB4.out)).mono ?_
          rintro e w5 ⟨q5, L, cap5, z, u, rfl, hcap5, hLm, hP5, hK5, hb5⟩
          have HP5 := Lib.hid hP5; have HK5 := Lib.hid hK5; have HFit := Lib.hid (pkd_fit hK5)
          have HS5 := Lib.hid (HS4.out.below hb5); have HB5 := Lib.hid (Below.next HB4.out hb5); have HC5 := Lib.hid (HC4.out.below hb5); clear hP5 hK5 hb5 HC4 HS4
          by_cases hLk : L < l
          · have d2 : (L : Int) < (l : Int) := by omega
            go_wp2_with fail
            go_ret
            exact ⟨rfl, HB5.out⟩
          · have d2 : decide ((L : Int) < (l : Int)) = false := by simp; omega
            have d2' : decide (L < l) = false := by simp; omega
            have HU0 : Hid ((u 0).size = M) := by show _ = _; rw [(HK5.out.1 0 (by omega)).2.2, pc_size]
            go_wp2_with fail
            go_loopw [14, 15] (fun V I wr => RelAl w5 n (pc l M x t) V I wr) (fun _ I _ => n - (intOf I).toNat)
            case atStart => exact ⟨0, by omega, rfl, World.ownsRow_nil _ _ _ _, Below.refl _ _⟩
            case round =>
              obtain ⟨i, hi, rfl, hO, hb6⟩ := hrel
              have HO := Lib.hid hO; have HB6 := Lib.hid hb6; clear hO hb6
              have HC6 := Lib.hid (HC5.out.below HB6.out)
              by_cases hlt : i < n
              · have i0 : (i : Int) < (n : Int) := by omega
                go_wp2_with fail
                refine (again_yes c l n fb TB r x q5 L cap5 M z u i _ (by omega) hcap5 HC6.out (HP5.out.below HB6.out) HFit.out (by omega) hsz HU0.out hlt).mono ?_
                rintro e w7 ⟨y', hy', rfl, hb7⟩
                have HE : Hid (pc l M x (pc l M y' u) i = pc l M x t i) := pc_congr (fun _ _ => rfl) fun j hj => pkd_read HK5.out (by omega) hy' HZ.out hj
                have HB7 := Lib.hid (Below.next HB6.out hb7)
                have HO7 := Lib.hid (own_below HO.out hb7 (Nat.le_refl _))
                have ca : w7.cell? ⟨B4, i, none⟩ = some (.string (pc l M x t i)) := by
                  have := (HS5.out.below HB7.out).at_ hlt; rwa [Nat.zero_add] at this
                have HT := Lib.hid (sl_succ i (pc l M x t))
                clear hb7 hy'
                rw [HE.out]
                clear HE
                generalize pc l M x t i = s at ca HT ⊢
                go_wp2_with (at_builtin; refine wpList_append_own _ rfl _ _ 22 rfl w5.heap.size 9 iS (.string ⟨#[]⟩) 1 16 Try.underlying22 HIS.out HZS.out HSS.out HBS.out rfl (by decide) _ _ _ rfl (HO7.out.alloc _) ⟨w7.heap.size, 0, none⟩ 1 1 [.string s] rfl rfl (one_news w7 (.string s) 9) ?c2 ?c3 ?c4 ?c5 ?_)
                case c2 => intro u hu; simp at hu; subst hu; rfl
                case c3 => unfold maxLen; omega
                case c4 => omega
                case c5 => have := HB7.out.size; simp; omega
                intro v' w8 hown' hgrow _
                have HN : Hid (w8.ownsRow w5.heap.size 9 1 v' (i + 1) (sl (i + 1) (pc l M x t))) := by
                  show World.ownsRow _ _ _ _ _ _ _
                  rw [HT.out]; exact hown'
                have HB8 : Hid (Below w5.heap.size w5 w8) := (HB7.out.alloc HB7.out.size _).grown hgrow (one_base HB7.out.size _) (fun g e => (HO7.out.lt g e).1)
                clear hown' hgrow
                go_wp2
                go_roundw
                case rel => exact ⟨i + 1, by omega, by go_num, HN.out, HB8.out⟩
                case measure => simp [intOf]; omega
              · obtain rfl : n = i := by omega
                obtain ⟨g, cap, hv, _⟩ := HO.out.form (by omega)
                subst hv
                have hcap9 := own_cap HO.out
                have HO2 := Lib.hid (own_strs HO.out)
                go_wp2_with fail
                refine (sizes_yes c l n fb TB r x _ HC6.out).mono ?_
                rintro e w7 ⟨rfl, g7, hw7⟩
                have HO3 : Hid (Strs w7 (some ⟨g, 0, none⟩) n (pc l M x t)) := by rw [hw7]; exact HO2.out.drewN g7
                have HC7 : Hid (IsC w7 c l n fb TB r x) := by rw [hw7]; exact HC6.out.drewN g7
                have HB7 : Hid (Below w.heap.size w w7) := by rw [hw7]; exact below_drewN (Below.next HB5.out HB6.out) g7
                clear hw7
                go_wp2_with fail
                refine (right_of c l n fb TB r x g 0 cap M t (pc l M x t) _ HC7.out HO3.out hcap9 HZ.out hsz (fun _ _ => rfl)).mono ?_
                rintro e w8 ⟨rfl, hb8⟩
                have HB8 := Lib.hid (Below.next HB7.out hb8); clear hb8
                go_wp2_with fail
                go_ret
                exact ⟨rfl, HB8.out⟩
        · have HMk : Hid (l ≠ k ∨ ¬ Ev l t) := by
            by_cases e : l = k
            · exact Or.inr fun h => hmk ⟨e, h⟩
            · exact Or.inl e
          clear hmk
          go_wp2_with fail
          refine (make_no c k n fb TB r x p l cl t _ (by have := HFw.out.1; omega) HC.out HS3.out HMk.out).mono ?_
          rintro e w4 ⟨rfl, hw⟩
          obtain rfl : w3 = w4 := hw.symm
          clear hw
          go_wp2_with fail
          go_ret
          exact ⟨rfl, HB3.out⟩
      · have HNo : Hid ((k : Int) < 1 ∨ (n : Int) < (k : Int) ∨ (16 : Int) < (n : Int)) := by show _ ∨ _; omega
        clear hkn
        go_wp2_with fail
        refine (new_no _ _ HNo.out _).mono ?_
        rintro e w3 ⟨rfl, hw⟩
        obtain rfl : w1 = w3 := hw.symm
        clear hw
        go_wp2_with fail
        refine (make_nil p l cl _).mono ?_
        rintro e w4 ⟨rfl, hw⟩
        obtain rfl : w1 = w4 := hw.symm
        clear hw
        go_wp2_with fail
        go_ret
        exact ⟨rfl, HB1.out⟩
/-! ### STEP 1: THE WALK: the Go text returns true, AND WRITES NOTHING THAT WAS THERE: 'Below w.heap.size w w'' (Derived/Below.lean: '.refl', '.alloc', '.drew', '.setCell' at a new block, '.trans'). Open each 'IsRow' by 'rcases' AHEAD of 'go_enter'; part every test ahead of the walk. -/
theorem walk (a0 : Int) (a1 : Int) (a2 : Option Addr) (len2 cap2 : Nat) (z2 : (Nat → ByteArray)) (a3 : Option Addr) (len3 cap3 : Nat) (z3 : (Nat → Mx.K)) (w : World) (w0 : (Lit.int .u8 a0).wf = true) (w1 : (Lit.int .u8 a1).wf = true) (w2 : Cd.StrIn w a2 len2 cap2 z2) (w3 : Cd.BytIn w a3 len3 cap3 z3) :
    Calls Try.prog 6 #[.int .u8 a0, .int .u8 a1, .slice a2 len2 cap2, .slice a3 len3 cap3] w fun e w' => e = .returned (.bool true) ∧ Below w.heap.size w w' := by
  obtain ⟨k, rfl, hk⟩ := u8_nat w0
  obtain ⟨n, rfl, hn⟩ := u8_nat w1
  exact main k n hk hn a2 len2 cap2 z2 a3 len3 cap3 z3 w w2 w3

/-! ### THE ROW's STEP: WRITTEN OUT: LEAVE IT -/
set_option maxRecDepth 100000 in
theorem lifted (os : Os) (started : os.Started) (H : Type) (enc : TypeId × Value → H) :
    ReturnsInHanded {} Try.checked os 6 .any (Rows.coderAllSpec.pre6 enc Try.prog Try.f6 Rows.coderAllRow.domain false) (Rows.coderAllSpec.post enc Try.prog Try.f6 false true false false) := by
  refine returnsInHanded_of_change (C := Try.checked) own started (by kernel_rfl) Try.func6
    (ChangeSpec.witness6 (enc := enc) (C := Try.checked) false ⟨#[], #[.int .u8 0, .int .u8 0, .slice none 0 0, .slice none 0 0], []⟩ 8 (by kernel_rfl) (by kernel_rfl) (by kernel_rfl) (by kernel_rfl)) ?_
  intro W base args ds gs before hval0 hW hcnd _
  have hval : ∀ (j : Nat) t v, Try.f6.params[j]? = some t → args[j]? = some v → Value.okWide Try.prog W .any base t v := hval0
  have hW' := hW
  obtain ⟨p, q, hA0, hV, rfl, hfz, hnd⟩ := hW
  have hA : DataW.TrodAll enc Try.prog W 0 (fun _ => true) true Try.f6.params.toList args.toList ds p := hA0
  rw [Try.params6] at hA hval
  obtain ⟨v0, vs0, d0, ds0, p0, q0, hargs, rfl, rfl, h0, r0⟩ := trodAll_cons hA
  obtain ⟨v1, vs1, d1, ds1, p1, q1, rfl, rfl, rfl, h1, r1⟩ := trodAll_cons r0
  obtain ⟨v2, vs2, d2, ds2, p2, q2, rfl, rfl, rfl, h2, r2⟩ := trodAll_cons r1
  obtain ⟨v3, vs3, d3, ds3, p3, q3, rfl, rfl, rfl, h3, r3⟩ := trodAll_cons r2
  obtain ⟨rfl, rfl, rfl⟩ := trodAll_nil r3
  obtain rfl : args = #[v0, v1, v2, v3] := by cases args; simp_all
  obtain ⟨rfl, rfl⟩ := trodVars_none hV
  obtain ⟨a0, rfl, rfl, rfl, w0⟩ := open_int Try.underlying5 (hval 0 5 v0 rfl rfl) h0
  obtain ⟨a1, rfl, rfl, rfl, w1⟩ := open_int Try.underlying5 (hval 1 5 v1 rfl rfl) h1
  obtain ⟨a2, len2, cap2, rfl⟩ := okWide_slice Try.underlying22 (hval 2 22 v2 rfl rfl)
  have k2 := h2
  have lt2 : ∀ x ∈ p2, x.block < W.heap.size := by obtain ⟨m, hm⟩ := k2; exact DataW.trod_lt m _ _ _ hm
  obtain ⟨z2, w2⟩ : ∃ z : (Nat → ByteArray), Cd.StrIn W a2 len2 cap2 z := Cd.strs_of h2
  obtain ⟨a3, len3, cap3, rfl⟩ := okWide_slice Try.underlying23 (hval 3 23 v3 rfl rfl)
  have k3 := h3
  have lt3 : ∀ x ∈ p3, x.block < W.heap.size := by obtain ⟨m, hm⟩ := k3; exact DataW.trod_lt m _ _ _ hm
  obtain ⟨z3, w3⟩ : ∃ z : (Nat → Mx.K), Cd.BytIn W a3 len3 cap3 z := Cd.byts_of h3
  clear hA0 hval0
  refine (walk a0 a1 a2 len2 cap2 z2 a3 len3 cap3 z3 W w0 w1 w2 w3).mono fun e W' ⟨he, bel⟩ => ?_
  subst he
  exact ⟨_, rfl, _, _, _, [], _, [], hW', trodAll_mk1 (shut_bool Try.underlying4 _), (trodAll_cons_mk (shut_int Try.underlying5 w0) (trodAll_cons_mk (shut_int Try.underlying5 w1) (trodAll_cons_mk (Below.trod laidOut (by kernel_rfl) (of_decide_eq_true (by kernel_rfl)) k2 bel lt2) (trodAll_cons_mk (Below.trod laidOut (by kernel_rfl) (of_decide_eq_true (by kernel_rfl)) k3 bel lt3) trodAll_mk0)))), rfl, bel.frame _, fun h => by cases h⟩

theorem over : Rows.coderAllRow.holds Try.pinned (OpenSpec.ofChange Rows.coderAllSpec) :=
  OpenClaim.holds_of_wide 6 Try.f6 rfl rfl rfl rfl rfl rfl rfl ⟨rfl, rfl, rfl, rfl, rfl⟩ rfl rfl rfl rfl rfl (by kernel_rfl) Try.func6 (by kernel_rfl)
    (of_decide_eq_true (by kernel_rfl)) (by unfold Func.isWrapper; first | (rw [if_pos (by decide +kernel)]; kernel_rfl) | (rw [if_neg (by decide +kernel)]; exact ⟨rfl, rfl⟩))
    (fun os started H enc _ => lifted os started H enc)

/-- ████ THE STATEMENT ████ -/
theorem proved : Rows.CoderAllSaid := over
#print axioms proved
end Go.Proofs.Ytkgfkchdbbeljaa.coderAll
