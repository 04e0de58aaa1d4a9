/-
  Proved: for every input the law TapeLays returns true, and leaves its arguments as they were. Condition: the arguments hold together at most 1048576 values and letters.
-/
import Derived.Test.YtajdlaihdebmmaaRows
import Derived.WalkKit
import Derived.ProofKit
import Derived.OpenShut
import Derived.ShutString
import Derived.ChangeOld
import Derived.Below
import Derived.JoinedCond
import Derived.Test.YtajdlaihdebmmaaTpTexts
import Derived.Test.YtajdlaihdebmmaaTpRef
import Derived.Test.YtajdlaihdebmmaaTpAwake
import Derived.Test.YtajdlaihdebmmaaOvBulk
namespace Go.Proofs.Ytajdlaihdebmmaa.tapeLays
open Go.ChangeShapes Go.WideShapes Go.ChangeAt Go.RowKit
open Go.ChangeMaps (open_string shut_string)
set_option linter.unusedVariables false

theorem own : ownKnob Try.prog.godebug = none := by kernel_rfl
theorem laidOut : laidOutB Try.prog = true := by kernel_rfl

open Go.Proofs.Ytajdlaihdebmmaa.Tp Go.Proofs.Ytajdlaihdebmmaa.Ov
set_option maxRecDepth 100000 in
set_option maxHeartbeats 1000000 in
theorem large (a : Int) (s : ByteArray) (p : Option Addr) (n c : Nat) (w : World) (h : 3000 < s.size ∨ 100 < n) (hs : s.size ≤ 1048576) (hn : n ≤ 1048576) :
    Calls Try.prog 5 #[.int .i64 a, .string s, .slice p n c] w fun e w' => e = .returned (.bool true) ∧ Below w.heap.size w w' := by
  by_cases h1 : 3000 < s.size
  · clear h
    go_enter Try.func5, Try.ntmps5
    go_wp2_with fail
    refine (awake_any _).mono ?_
    rintro e w1 ⟨rfl, hb⟩
    have HB := Lib.hid hb; clear hb
    go_wp2_with fail
    refine (awake_any _).mono ?_
    rintro e w2 ⟨rfl, hb2⟩
    have HB2 := Lib.hid (Below.next HB.out hb2); clear hb2
    go_wp2_with fail
    go_ret
    exact ⟨rfl, HB2.out⟩
  · have h2 : 100 < n := by omega
    clear h
    go_enter Try.func5, Try.ntmps5
    go_wp2_with fail
    refine (awake_any _).mono ?_
    rintro e w1 ⟨rfl, hb⟩
    have HB := Lib.hid hb; clear hb
    go_wp2_with fail
    refine (awake_any _).mono ?_
    rintro e w2 ⟨rfl, hb2⟩
    have HB2 := Lib.hid (Below.next HB.out hb2); clear hb2
    go_wp2_with fail
    go_ret
    exact ⟨rfl, HB2.out⟩
set_option maxRecDepth 100000 in
set_option maxHeartbeats 2000000 in
theorem small (a : Int) (s : ByteArray) (p : Option Addr) (n c : Nat) (t : Nat → ByteArray) (w : World) (hs : s.size ≤ 3000) (hn : n ≤ 100) (hS : Strs w p n t) (ht : ∀ i, i < n → (t i).size ≤ 1048576) :
    Calls Try.prog 5 #[.int .i64 a, .string s, .slice p n c] w fun e w' => e = .returned (.bool true) ∧ Below w.heap.size w w' := by
  have HS := Lib.hid hS; have HT := Lib.hid ht; clear hS ht
  have HL := Lib.hid (fun k => tbs_len (t := t) k)
  have hl8 := nb_len8 (n := n) (by omega)
  go_enter Try.func5, Try.ntmps5
  go_wp2_with fail
  refine (awake_any _).mono ?_
  rintro e w1 ⟨rfl, hb⟩
  have HB := Lib.hid hb; clear hb
  go_wp2_with fail
  refine (rnum_yes n _ (by omega)).mono ?_
  rintro e w2 ⟨rfl, hb⟩
  have HB2 := Lib.hid (Below.next HB.out hb); clear hb
  obtain ⟨V, hV⟩ : ∃ V, V = tx (nb n) := ⟨_, rfl⟩
  rw [← hV]
  have HV := Lib.hid hV; clear hV
  go_wp2_with fail
  go_loopw [7, 8] (fun v i wr => ∃ k : Nat, k ≤ n ∧ v = .string (tx (nb n ++ tbs t k)) ∧ i = .int .i64 (k : Int) ∧ Below w.heap.size w wr) (fun _ i _ => n - (intOf i).toNat)
  case atStart => exact ⟨0, by omega, by rw [HV.out]; simp [tbs], rfl, HB2.out⟩
  case round =>
    obtain ⟨k, hk, rfl, rfl, hb⟩ := hrel
    have HBk := Lib.hid hb; clear hb
    have hlk := HL.out k (fun i hi => by have := HT.out i (by omega); omega)
    have hsz : (tx (nb n ++ tbs t k)).size ≤ 10000000000 := by rw [tx_size, List.length_append]; omega
    by_cases hlt : k < n
    · obtain ⟨P, O, hp, hc⟩ := HS.out (by omega)
      have ck : wr.cell? ⟨P, O + k, none⟩ = some (.string (t k)) := by rw [HBk.out.cell (p := ⟨P, O + k, none⟩) (block_lt_of_cell (hc k hlt))]; exact hc k hlt
      clear hc
      subst hp
      have htk := HT.out k hlt
      have hz8 := nb_len8 (n := (t k).size) (by omega)
      have HE : Hid (tx (nb n ++ tbs t k) ++ tx (nb (t k).size ++ (t k).data.toList) = tx (nb n ++ tbs t (k + 1))) := by
        show _ = _
        rw [tx_append]
        show _ = tx (nb n ++ (tbs t k ++ (nb (t k).size ++ (t k).data.toList)))
        rw [List.append_assoc]
      have hz2 : (tx (nb (t k).size ++ (t k).data.toList)).size ≤ 2000000 := by rw [tx_size, List.length_append]; simp; omega
      have HR := Lib.hid (fun w => rtext_any (t k) w htk)
      generalize tx (nb n ++ tbs t k) = V at *
      generalize tx (nb (t k).size ++ (t k).data.toList) = U at *
      have hz3 : ¬ V.size + U.size > 9223372036854775807 := by omega
      go_wp2_with fail
      refine (HR.out _).mono ?_
      rintro e w3 ⟨rfl, hb⟩
      have HB3 : Hid (Below w.heap.size w w3) := Below.next HBk.out hb
      clear hb
      go_wp2_with fail
      go_roundw
      case rel => exact ⟨k + 1, by omega, by rw [HE.out], by go_num, HB3.out⟩
      case measure => simp [intOf]; omega
    · obtain rfl : k = n := by omega
      have HR := Lib.hid (fun w' hb => texts_any p k c t w' (by omega) (HS.out.old hb) (fun i hi => by have := HT.out i hi; omega))
      generalize tx (nb k ++ tbs t k) = V at *
      go_wp2_with fail
      refine (num_any a _).mono ?_
      rintro e w3 ⟨rfl, hb⟩
      have HB3 := Lib.hid (Below.next HBk.out hb); clear hb
      go_wp2_with fail
      refine (rnum_any a _).mono ?_
      rintro e w4 ⟨rfl, hb⟩
      have HB4 := Lib.hid (Below.next HB3.out hb); clear hb
      generalize tx (nv a) = A
      go_wp2_with fail
      refine (whole_any a _).mono ?_
      rintro e w5 ⟨rfl, hb⟩
      have HB5 := Lib.hid (Below.next HB4.out hb); clear hb
      go_wp2_with fail
      refine (rwhole_any a _).mono ?_
      rintro e w6 ⟨rfl, hb⟩
      have HB6 := Lib.hid (Below.next HB5.out hb); clear hb
      generalize tx (wv a) = A2
      go_wp2_with fail
      refine (text_any s _ (by omega)).mono ?_
      rintro e w7 ⟨rfl, hb⟩
      have HB7 := Lib.hid (Below.next HB6.out hb); clear hb
      go_wp2_with fail
      refine (rtext_any s _ (by omega)).mono ?_
      rintro e w8 ⟨rfl, hb⟩
      have HB8 := Lib.hid (Below.next HB7.out hb); clear hb
      generalize tx (nb s.size ++ s.data.toList) = A3
      go_wp2_with fail
      refine (HR.out _ HB8.out).mono ?_
      rintro e w9 ⟨rfl, hb⟩
      have HB9 := Lib.hid (Below.next HB8.out hb); clear hb
      go_wp2_with fail
      go_ret
      exact ⟨rfl, HB9.out⟩
/-! ### STEP 1: THE WALK: the Go text returns true, AND WRITES NOTHING THAT WAS THERE: 'Below w.heap.size w w'' (Derived/Below.lean: '.refl', '.alloc', '.drew', '.setCell' at a new block, '.trans'). Open each 'IsRow' by 'rcases' AHEAD of 'go_enter'; part every test ahead of the walk. -/
theorem walk (a0 : Int) (a1 : ByteArray) (a2 : Option Addr) (len2 cap2 : Nat) (z2 : (Nat → ByteArray)) (w : World) (w0 : (Lit.int .i64 a0).wf = true) (w1 : a1.size ≤ maxLen) (w2 : Ov.StrInS w a2 len2 cap2 z2) (s1 : a1.size ≤ 1048576) :
    Calls Try.prog 5 #[.int .i64 a0, .string a1, .slice a2 len2 cap2] w fun e w' => e = .returned (.bool true) ∧ Below w.heap.size w w' := by
  obtain ⟨⟨hS, hm, hc⟩, hb⟩ := w2
  have hl := total_len z2 len2
  by_cases h : 3000 < a1.size ∨ 100 < len2
  · exact large a0 a1 a2 len2 cap2 w h s1 (by omega)
  · exact small a0 a1 a2 len2 cap2 z2 w (by omega) (by omega) hS (fun i hi => by have := total_le (t := z2) hi; omega)

/-! ### THE ROW's STEP: WRITTEN OUT: LEAVE IT -/
set_option maxRecDepth 100000 in
theorem lifted (os : Os) (started : os.Started) (H : Type) (enc : TypeId × Value → H) (F : Stop.Interp) :
    ReturnsInHanded {} Try.checked os 5 .any ((Rows.OpenSpec.upto Rows.tapeLaysSpec).pre6 enc Try.prog Try.f5 Rows.tapeLaysUptoRow.domain false) (((Rows.OpenSpec.upto Rows.tapeLaysSpec).at F).post enc Try.prog Try.f5 false true false false) := by
  refine returnsInHanded_of_cond (C := Try.checked) (s := Rows.OpenSpec.upto Rows.tapeLaysSpec) (k := Rows.uptoSmall) rfl own started (by kernel_rfl) Try.func5
    (OpenSpec.witness (enc := enc) (C := Try.checked) (s := Rows.OpenSpec.upto Rows.tapeLaysSpec) (k := Rows.uptoSmall) rfl false ⟨#[], #[.int .i64 0, .string ByteArray.empty, .slice none 0 0], []⟩ 8 (by kernel_rfl) (by kernel_rfl) (by kernel_rfl)
      (x := ([.lit (.int .i64 0), .lit (.string []), .nil], [], [])) (by kernel_rfl) rfl (by kernel_rfl)) ?_
  intro W base args ds gs before hval0 hW hcnd hk _
  have hval : ∀ (j : Nat) t v, Try.f5.params[j]? = some t → args[j]? = some v → Value.okWide Try.prog W .any base t v := hval0
  have hW' := hW
  obtain ⟨p, q, hA0, hV, rfl, hfz, hnd⟩ := hW
  have hA : DataW.TrodAll enc Try.prog W 0 (fun _ => true) true Try.f5.params.toList args.toList ds p := hA0
  rw [Try.params5] at hA hval
  obtain ⟨v0, vs0, d0, ds0, p0, q0, hargs, rfl, rfl, h0, r0⟩ := trodAll_cons hA
  obtain ⟨v1, vs1, d1, ds1, p1, q1, rfl, rfl, rfl, h1, r1⟩ := trodAll_cons r0
  obtain ⟨v2, vs2, d2, ds2, p2, q2, rfl, rfl, rfl, h2, r2⟩ := trodAll_cons r1
  obtain ⟨rfl, rfl, rfl⟩ := trodAll_nil r2
  obtain rfl : args = #[v0, v1, v2] := by cases args; simp_all
  obtain ⟨rfl, rfl⟩ := trodVars_none hV
  have b0 : Rows.uptoBulk d0 ≤ 1048576 := Ov.bulk_of hk (by simp)
  have b1 : Rows.uptoBulk d1 ≤ 1048576 := Ov.bulk_of hk (by simp)
  have b2 : Rows.uptoBulk d2 ≤ 1048576 := Ov.bulk_of hk (by simp)
  obtain ⟨a0, rfl, rfl, rfl, w0⟩ := open_int Try.underlying3 (hval 0 3 v0 rfl rfl) h0
  obtain ⟨a1, rfl, rfl, rfl, w1⟩ := open_string Try.underlying9 (hval 1 9 v1 rfl rfl) h1
  have s1 : a1.size ≤ 1048576 := Ov.text_small b1
  obtain ⟨a2, len2, cap2, rfl⟩ := okWide_slice Try.underlying22 (hval 2 22 v2 rfl rfl)
  have k2 := h2
  have lt2 : ∀ x ∈ p2, x.block < W.heap.size := by obtain ⟨m, hm⟩ := k2; exact DataW.trod_lt m _ _ _ hm
  obtain ⟨z2, w2⟩ : ∃ z : (Nat → ByteArray), Ov.StrInS W a2 len2 cap2 z := Ov.strs_of_s h2 b2
  clear hA0 hval0
  refine (walk a0 a1 a2 len2 cap2 z2 W w0 w1 w2 s1).mono fun e W' ⟨he, bel⟩ => ?_
  subst he
  exact ⟨_, rfl, _, _, _, [], _, [], hW', trodAll_mk1 (shut_bool Try.underlying4 _), (trodAll_cons_mk (shut_int Try.underlying3 w0) (trodAll_cons_mk (shut_string Try.underlying9 w1) (trodAll_cons_mk (Below.trod laidOut (by kernel_rfl) (of_decide_eq_true (by kernel_rfl)) k2 bel lt2) trodAll_mk0))), rfl, bel.frame _, fun h => by cases h⟩

theorem over : Rows.tapeLaysUptoRow.holds Try.pinned (Rows.OpenSpec.upto Rows.tapeLaysSpec) :=
  OpenClaim.holds_of_cond 5 Try.f5 rfl rfl rfl rfl rfl rfl rfl ⟨rfl, rfl, rfl, rfl, rfl⟩ rfl rfl rfl rfl rfl (by kernel_rfl) Try.func5 (by kernel_rfl)
    (of_decide_eq_true (by kernel_rfl)) (by unfold Func.isWrapper; first | (rw [if_pos (by decide +kernel)]; kernel_rfl) | (rw [if_neg (by decide +kernel)]; exact ⟨rfl, rfl⟩))
    (fun os started H enc _ F => lifted os started H enc F)

/-- ████ THE STATEMENT ████ -/
theorem proved : Rows.TapeLaysUptoSaid := over
#print axioms proved
end Go.Proofs.Ytajdlaihdebmmaa.tapeLays
