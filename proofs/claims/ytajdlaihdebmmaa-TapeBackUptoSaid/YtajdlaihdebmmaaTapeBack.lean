/-
  Proved: for every input the law TapeBack returns true, and leaves its arguments as they were. Condition: the arguments hold together at most 1048576 values and letters.
-/
import Derived.Test.YtajdlaihdebmmaaRows
import Derived.WalkKit
import Derived.ProofKit
import Derived.OpenShut
import Derived.ShutString
import Derived.ChangeOld
import Derived.Below
import Derived.JoinedCond
import Derived.Test.YtajdlaihdebmmaaTpLaid
import Derived.Test.YtajdlaihdebmmaaTpTexts
import Derived.Test.YtajdlaihdebmmaaTpAwake
import Derived.Test.YtajdlaihdebmmaaOvBulk
namespace Go.Proofs.Ytajdlaihdebmmaa.tapeBack
open Go.ChangeShapes Go.WideShapes Go.ChangeAt Go.RowKit
open Go.ChangeMaps (open_string shut_string)
set_option linter.unusedVariables false

theorem own : ownKnob Try.prog.godebug = none := by kernel_rfl
theorem laidOut : laidOutB Try.prog = true := by kernel_rfl

open Go.Proofs.Ytajdlaihdebmmaa.Tp Go.Proofs.Ytajdlaihdebmmaa.Ov
theorem i64_bd {n : Int} (h : (Lit.int .i64 n).wf = true) : -9223372036854775808 ≤ n ∧ n ≤ 9223372036854775807 := by
  simpa [Lit.wf, IntKind.min, IntKind.max, IntKind.signed, IntKind.bits] using h
theorem mask53 (a : Int) : bits .and .i64 a 9007199254740991 = a % 9007199254740992 := by
  show IntKind.i64.wrap ((BitVec.ofInt 64 a &&& BitVec.ofInt 64 9007199254740991).toNat : Int) = _
  rw [BitVec.toNat_and, BitVec.toNat_ofInt, BitVec.toNat_ofInt]
  have e2 : ((9007199254740991 : Int) % ((2 ^ 64 : Nat) : Int)).toNat = 2 ^ 53 - 1 := by decide
  rw [e2, Nat.and_two_pow_sub_one_eq_mod, IntWalk.i64_in _ (by omega)]
  omega
/-- What is left behind the first i texts. -/
def bk (t : Nat → ByteArray) (n i : Nat) (r : List UInt8) : List UInt8 := (tbs t n ++ r).drop (tbs t i).length
theorem tbs_pre (t : Nat → ByteArray) (i d : Nat) : ∃ x, tbs t (i + d) = tbs t i ++ x := by
  induction d with
  | zero => exact ⟨[], by simp⟩
  | succ d ih =>
    obtain ⟨x, hx⟩ := ih
    exact ⟨x ++ tb (t (i + d)), by rw [show i + (d + 1) = (i + d) + 1 by omega]; show tbs t (i + d) ++ tb (t (i + d)) = _; rw [hx, List.append_assoc]⟩
theorem bk_step (t : Nat → ByteArray) {n i : Nat} (r : List UInt8) (h : i < n) : bk t n i r = nb (t i).size ++ ((t i).data.toList ++ bk t n (i + 1) r) := by
  obtain ⟨x, hx⟩ := tbs_pre t (i + 1) (n - (i + 1))
  rw [show i + 1 + (n - (i + 1)) = n by omega] at hx
  have h1 : bk t n (i + 1) r = x ++ r := by
    unfold bk; rw [hx, List.append_assoc, List.drop_left]
  rw [h1]
  have h2 : tbs t n = tbs t i ++ (tb (t i) ++ x) := by
    rw [hx]; show (tbs t i ++ tb (t i)) ++ x = _; rw [List.append_assoc]
  unfold bk
  rw [h2, List.append_assoc, List.drop_left]
  show ((nb (t i).size ++ (t i).data.toList) ++ x) ++ r = _
  simp only [List.append_assoc]
theorem bk_end (t : Nat → ByteArray) (n : Nat) (r : List UInt8) : bk t n n r = r := by unfold bk; rw [List.drop_left]
theorem bk_start (t : Nat → ByteArray) (n : Nat) (r : List UInt8) : bk t n 0 r = tbs t n ++ r := rfl
theorem bk_len (t : Nat → ByteArray) (n i : Nat) (r : List UInt8) : (bk t n i r).length ≤ (tbs t n).length + r.length := by unfold bk; rw [List.length_drop, List.length_append]; omega
def Ans (a b : Int) (s : ByteArray) (p : Option Addr) (n c : Nat) (r : ByteArray) (w : World) : Prop :=
  Calls Try.prog 3 #[.int .i64 a, .int .i64 b, .string s, .slice p n c, .string r] w fun e w' => e = .returned (.bool true) ∧ Below w.heap.size w w'
set_option maxRecDepth 100000 in
set_option maxHeartbeats 1000000 in
theorem large (a b : Int) (s : ByteArray) (p : Option Addr) (n c : Nat) (r : ByteArray) (w : World) (h : 3000 < s.size ∨ 100 < n ∨ 3000 < r.size) (hs : s.size ≤ 1048576) (hn : n ≤ 1048576) (hr : r.size ≤ 1048576) : Ans a b s p n c r w := by
  show Calls _ _ _ _ _
  by_cases h1 : 3000 < s.size
  · clear h
    go_enter Try.func3, Try.ntmps3
    go_wp2_with fail
    refine (awake_any _).mono ?_
    rintro e w1 ⟨rfl, hb⟩
    have HB := Lib.hid hb; clear hb
    go_wp2_with fail
    refine (awake_any _).mono ?_
    rintro e w2 ⟨rfl, hb2⟩
    have HB2 := Lib.hid (Below.next HB.out hb2); clear hb2
    go_wp2_with fail
    go_ret
    exact ⟨rfl, HB2.out⟩
  · by_cases h2 : 100 < n
    · clear h
      go_enter Try.func3, Try.ntmps3
      go_wp2_with fail
      refine (awake_any _).mono ?_
      rintro e w1 ⟨rfl, hb⟩
      have HB := Lib.hid hb; clear hb
      go_wp2_with fail
      refine (awake_any _).mono ?_
      rintro e w2 ⟨rfl, hb2⟩
      have HB2 := Lib.hid (Below.next HB.out hb2); clear hb2
      go_wp2_with fail
      go_ret
      exact ⟨rfl, HB2.out⟩
    · have h3 : 3000 < r.size := by omega
      clear h
      go_enter Try.func3, Try.ntmps3
      go_wp2_with fail
      refine (awake_any _).mono ?_
      rintro e w1 ⟨rfl, hb⟩
      have HB := Lib.hid hb; clear hb
      go_wp2_with fail
      refine (awake_any _).mono ?_
      rintro e w2 ⟨rfl, hb2⟩
      have HB2 := Lib.hid (Below.next HB.out hb2); clear hb2
      go_wp2_with fail
      go_ret
      exact ⟨rfl, HB2.out⟩
set_option maxRecDepth 100000 in
set_option maxHeartbeats 2000000 in
theorem small (a b : Int) (s : ByteArray) (p : Option Addr) (n c : Nat) (t : Nat → ByteArray) (r : ByteArray) (w : World) (hb1 : -9223372036854775808 ≤ b) (hb2 : b ≤ 9223372036854775807) (hs : s.size ≤ 3000) (hn : n ≤ 100) (hr : r.size ≤ 3000) (hS : Strs w p n t) (ht : ∀ i, i < n → (t i).size ≤ 1048576) : Ans a b s p n c r w := by
  obtain ⟨x, hx⟩ : ∃ x : Nat, bits .and .i64 a 9007199254740991 = (x : Int) := ⟨(a % 9007199254740992).toNat, by rw [mask53]; omega⟩
  have hxl : x ≤ 9007199254740991 := by have := mask53 a; rw [hx] at this; omega
  obtain ⟨m, hm⟩ : ∃ m : Int, b.tmod 4503599627370496 = m := ⟨_, rfl⟩
  have hm1 : -4503599627370496 ≤ m := by
    have := Int.lt_tmod_of_pos b (show (0 : Int) < 4503599627370496 by omega); omega
  have hm2 : m ≤ 4503599627370495 := by
    have := Int.tmod_lt_of_pos b (show (0 : Int) < 4503599627370496 by omega); omega
  have HS := Lib.hid hS; have HT := Lib.hid ht; clear hS ht
  show Calls _ _ _ _ _
  go_enter Try.func3, Try.ntmps3
  go_wp2_with fail
  refine (awake_any _).mono ?_
  rintro e w1 ⟨rfl, hb⟩
  have HB := Lib.hid hb; clear hb
  go_wp2_with fail
  refine (num_yes x _ hxl).mono ?_
  rintro e w2 ⟨rfl, hb⟩
  have HB2 := Lib.hid (Below.next HB.out hb); clear hb
  have hwv : wv m = nb (wn m) := if_neg (by omega)
  have HW := Lib.hid (fun w => whole_any m w); rw [hwv] at HW; clear hwv
  have HS1 := Lib.hid (nb_len8 hxl)
  have HS2 := Lib.hid (nb_len8 (wn_le hm1 hm2))
  have HTX := Lib.hid (fun w' hb => texts_any p n c t w' (by omega) (HS.out.old hb) (fun i hi => by have := HT.out i hi; omega))
  have HL := Lib.hid (tbs_len (t := t) n (fun i hi => by have := HT.out i hi; omega))
  have h8 := nb_len8 (n := n) (by omega)
  have h8s := nb_len8 (n := s.size) (by omega)
  obtain ⟨V1, hV1⟩ : ∃ V, V = tx (nb x) := ⟨_, rfl⟩
  obtain ⟨V2, hV2⟩ : ∃ V, V = tx (nb (wn m)) := ⟨_, rfl⟩
  obtain ⟨V3, hV3⟩ : ∃ V, V = tx (nb s.size ++ s.data.toList) := ⟨_, rfl⟩
  obtain ⟨V4, hV4⟩ : ∃ V, V = tx (nb n ++ tbs t n) := ⟨_, rfl⟩
  have z1 : V1.size ≤ 8 := by rw [hV1, tx_size]; exact HS1.out
  have z2 : V2.size ≤ 8 := by rw [hV2, tx_size]; exact HS2.out
  have z3 : V3.size ≤ 4000 := by rw [hV3, tx_size, List.length_append]; simp; omega
  have z4 : V4.size ≤ 10000000000 := by have := HL.out; rw [hV4, tx_size, List.length_append]; omega
  have HX : Hid ((V1 ++ V2 ++ V3 ++ V4 ++ r).data.toList = nb x ++ (nb (wn m) ++ (nb s.size ++ (s.data.toList ++ (nb n ++ bk t n 0 r.data.toList))))) := by
    show _ = _
    simp only [list_append, hV1, hV2, hV3, hV4, tx_list, bk_start, List.append_assoc]
  have y1 : (V1 ++ V2).size ≤ 16 := by rw [ByteArray.size_append]; omega
  have y2 : (V1 ++ V2 ++ V3).size ≤ 5000 := by rw [ByteArray.size_append]; omega
  have y3 : (V1 ++ V2 ++ V3 ++ V4).size ≤ 11000000000 := by rw [ByteArray.size_append]; omega
  have y4 : (V1 ++ V2 ++ V3 ++ V4 ++ r).size ≤ 12000000000 := by rw [ByteArray.size_append]; omega
  have HLL : Hid ((nb x ++ (nb (wn m) ++ (nb s.size ++ (s.data.toList ++ (nb n ++ bk t n 0 r.data.toList))))).length ≤ 12000000000) := by
    show _ ≤ _
    rw [← HX.out]
    have : (V1 ++ V2 ++ V3 ++ V4 ++ r).data.toList.length = (V1 ++ V2 ++ V3 ++ V4 ++ r).size := Array.length_toList
    omega
  rw [← hV1]
  rw [← hV2] at HW
  rw [← hV4] at HTX
  have HTS := Lib.hid (fun w => text_any s w (by omega)); rw [← hV3] at HTS
  have HV2 := Lib.hid hV2; have HV3 := Lib.hid hV3; have HV4 := Lib.hid hV4; clear hV1 hV2 hV3 hV4
  go_wp2_with fail
  refine (HW.out _).mono ?_
  rintro e w3 ⟨rfl, hb⟩
  have HB3 := Lib.hid (Below.next HB2.out hb); clear hb
  have q1 : ¬ V1.size + V2.size > 9223372036854775807 := by omega
  go_wp2_with fail
  refine (HTS.out _).mono ?_
  rintro e w4 ⟨rfl, hb⟩
  have HB4 := Lib.hid (Below.next HB3.out hb); clear hb
  go_wp2_with fail
  refine (HTX.out _ HB4.out).mono ?_
  rintro e w5 ⟨rfl, hb⟩
  have HB5 := Lib.hid (Below.next HB4.out hb); clear hb
  go_wp2_with fail
  clear y1 y2 y3 q1 z1 z2 z3 z4
  generalize V1 ++ V2 ++ V3 ++ V4 ++ r = X at *
  refine (new_any X _ (by omega)).mono ?_
  rintro e w6 ⟨g, rfl, hlo, hT, hb⟩
  rw [HX.out] at hT
  have HT6 := Lib.hid hT
  have HB6 := Lib.hid (Below.next HB5.out hb)
  have hg : w.heap.size ≤ g := Nat.le_trans HB5.out.size hlo
  clear hT hb hlo y4
  have hll := HLL.out
  clear HLL
  have L1 : (nb (wn m) ++ (nb s.size ++ (s.data.toList ++ (nb n ++ bk t n 0 r.data.toList)))).length ≤ 12000000000 := by rw [List.length_append] at hll; omega
  have L2 : (nb s.size ++ (s.data.toList ++ (nb n ++ bk t n 0 r.data.toList))).length ≤ 12000000000 := by rw [List.length_append] at L1; omega
  have L3 : (nb n ++ bk t n 0 r.data.toList).length ≤ 12000000000 := by rw [List.length_append, List.length_append] at L2; omega
  have HL0 := Lib.hid hll; have HL1 := Lib.hid L1; have HL2 := Lib.hid L2; have HL3 := Lib.hid L3
  clear hll L1 L2 L3
  go_wp2_with fail
  refine (num_laid g x _ _ HT6.out hxl (Nat.le_trans HL0.out (by omega))).mono ?_
  rintro e w7 ⟨rfl, hT, hu⟩
  have HT7 := Lib.hid hT; have HB7 := Lib.hid (HB6.out.trans (hu.below hg HB6.out.size)); clear hT hu
  go_wp2_with fail
  refine (whole_laid g m _ _ HT7.out hm1 hm2 (Nat.le_trans HL1.out (by omega))).mono ?_
  rintro e w8 ⟨rfl, hT, hu⟩
  have HT8 := Lib.hid hT; have HB8 := Lib.hid (HB7.out.trans (hu.below hg HB7.out.size)); clear hT hu
  go_wp2_with fail
  refine (text_laid g s _ _ _ HT8.out (by omega) (by omega) (Nat.le_trans HL2.out (by omega))).mono ?_
  rintro e w9 ⟨rfl, hT, hu⟩
  have HT9 := Lib.hid hT; have HB9 := Lib.hid (HB8.out.trans (hu.below hg HB8.out.size)); clear hT hu
  go_wp2_with fail
  refine (count_laid g n _ _ _ HT9.out (by omega) (by omega) (Nat.le_trans HL3.out (by omega))).mono ?_
  rintro e w10 ⟨rfl, hT, hu⟩
  have HT10 := Lib.hid hT; have HB10 := Lib.hid (HB9.out.trans (hu.below hg HB9.out.size)); clear hT hu
  go_wp2_with fail
  go_loopw [20, 21, 22] (fun i _ _ wr => ∃ k : Nat, k ≤ n ∧ i = .int .i64 (k : Int) ∧ IsT wr g (bk t n k r.data.toList) ∧ Below w.heap.size w wr) (fun i _ _ _ => n - (intOf i).toNat)
  case atStart => exact ⟨0, by omega, rfl, HT10.out, HB10.out⟩
  case round =>
    obtain ⟨k, hk, rfl, hT, hb⟩ := hrel
    have HTk := Lib.hid hT; have HBk := Lib.hid hb; clear hT hb
    by_cases hlt : k < n
    · obtain ⟨P, O, hp, hc⟩ := HS.out (by omega)
      have ck : ∀ v : World, Below w.heap.size w v → v.cell? ⟨P, O + k, none⟩ = some (.string (t k)) := fun v hv => by rw [hv.cell (p := ⟨P, O + k, none⟩) (block_lt_of_cell (hc k hlt))]; exact hc k hlt
      have CK := Lib.hid ck
      have c0 := ck wr HBk.out
      clear hc ck
      subst hp
      have htk := HT.out k hlt
      have HT1 : Hid (IsT wr g (nb (t k).size ++ ((t k).data.toList ++ bk t n (k + 1) r.data.toList))) := by
        show IsT _ _ _
        rw [← bk_step t r.data.toList hlt]; exact HTk.out
      have hlen : (nb (t k).size ++ ((t k).data.toList ++ bk t n (k + 1) r.data.toList)).length ≤ 12000000000 := by
        rw [← bk_step t r.data.toList hlt]
        have h1 := bk_len t n k r.data.toList
        have h2 := HL.out
        have h3 : r.data.toList.length = r.size := Array.length_toList
        omega
      have HLEN := Lib.hid hlen; clear hlen
      go_wp2_with fail
      refine (text_laid g (t k) _ _ _ HT1.out (by omega) (by omega) (Nat.le_trans HLEN.out (by omega))).mono ?_
      rintro e w11 ⟨rfl, hT, hu⟩
      have HT11 := Lib.hid hT; have HB11 := Lib.hid (HBk.out.trans (hu.below hg HBk.out.size)); clear hT hu
      have c1 := CK.out w11 HB11.out
      clear c0
      go_wp2_with fail
      go_roundw
      case rel => exact ⟨k + 1, by omega, by go_num, HT11.out, HB11.out⟩
      case measure => simp [intOf]; omega
    · obtain rfl : k = n := by omega
      have HTR : Hid (IsT wr g r.data.toList) := by
        show IsT _ _ _
        rw [← bk_end t k r.data.toList]; exact HTk.out
      go_wp2_with fail
      refine (left_at g _ r.size _ HTR.out Array.length_toList).mono ?_
      rintro e w11 ⟨rfl, rfl⟩
      by_cases hr0 : r.data.toList = []
      · have hr1 : r.toList.isEmpty = true := by rw [ByteArray.toList_eq, hr0]; rfl
        go_wp2_with fail
        refine (end_yes g _ _ HTR.out hr0).mono ?_
        rintro e w12 ⟨rfl, rfl⟩
        clear hr0
        go_wp2_with fail
        go_ret
        exact ⟨rfl, HBk.out⟩
      · have hr1 : r.toList.isEmpty = false := by rw [ByteArray.toList_eq]; simpa using hr0
        have HR0 := Lib.hid hr0; clear hr0
        go_wp2_with fail
        refine (end_no g _ _ HTR.out HR0.out).mono ?_
        rintro e w12 ⟨rfl, rfl⟩
        go_wp2_with fail
        go_ret
        exact ⟨rfl, HBk.out⟩
/-! ### STEP 1: THE WALK: the Go text returns true, AND WRITES NOTHING THAT WAS THERE: 'Below w.heap.size w w'' (Derived/Below.lean: '.refl', '.alloc', '.drew', '.setCell' at a new block, '.trans'). Open each 'IsRow' by 'rcases' AHEAD of 'go_enter'; part every test ahead of the walk. -/
theorem walk (a0 : Int) (a1 : Int) (a2 : ByteArray) (a3 : Option Addr) (len3 cap3 : Nat) (z3 : (Nat → ByteArray)) (a4 : ByteArray) (w : World) (w0 : (Lit.int .i64 a0).wf = true) (w1 : (Lit.int .i64 a1).wf = true) (w2 : a2.size ≤ maxLen) (w3 : Ov.StrInS w a3 len3 cap3 z3) (w4 : a4.size ≤ maxLen) (s2 : a2.size ≤ 1048576) (s4 : a4.size ≤ 1048576) :
    Calls Try.prog 3 #[.int .i64 a0, .int .i64 a1, .string a2, .slice a3 len3 cap3, .string a4] w fun e w' => e = .returned (.bool true) ∧ Below w.heap.size w w' := by
  obtain ⟨⟨hS, hm, hc⟩, hb⟩ := w3
  have hl := total_len z3 len3
  have hbb := i64_bd w1
  by_cases h : 3000 < a2.size ∨ 100 < len3 ∨ 3000 < a4.size
  · exact large a0 a1 a2 a3 len3 cap3 a4 w h s2 (by omega) s4
  · exact small a0 a1 a2 a3 len3 cap3 z3 a4 w hbb.1 hbb.2 (by omega) (by omega) (by omega) hS (fun i hi => by have := total_le (t := z3) hi; omega)

/-! ### THE ROW's STEP: WRITTEN OUT: LEAVE IT -/
set_option maxRecDepth 100000 in
theorem lifted (os : Os) (started : os.Started) (H : Type) (enc : TypeId × Value → H) (F : Stop.Interp) :
    ReturnsInHanded {} Try.checked os 3 .any ((Rows.OpenSpec.upto Rows.tapeBackSpec).pre6 enc Try.prog Try.f3 Rows.tapeBackUptoRow.domain false) (((Rows.OpenSpec.upto Rows.tapeBackSpec).at F).post enc Try.prog Try.f3 false true false false) := by
  refine returnsInHanded_of_cond (C := Try.checked) (s := Rows.OpenSpec.upto Rows.tapeBackSpec) (k := Rows.uptoSmall) rfl own started (by kernel_rfl) Try.func3
    (OpenSpec.witness (enc := enc) (C := Try.checked) (s := Rows.OpenSpec.upto Rows.tapeBackSpec) (k := Rows.uptoSmall) rfl false ⟨#[], #[.int .i64 0, .int .i64 0, .string ByteArray.empty, .slice none 0 0, .string ByteArray.empty], []⟩ 8 (by kernel_rfl) (by kernel_rfl) (by kernel_rfl)
      (x := ([.lit (.int .i64 0), .lit (.int .i64 0), .lit (.string []), .nil, .lit (.string [])], [], [])) (by kernel_rfl) rfl (by kernel_rfl)) ?_
  intro W base args ds gs before hval0 hW hcnd hk _
  have hval : ∀ (j : Nat) t v, Try.f3.params[j]? = some t → args[j]? = some v → Value.okWide Try.prog W .any base t v := hval0
  have hW' := hW
  obtain ⟨p, q, hA0, hV, rfl, hfz, hnd⟩ := hW
  have hA : DataW.TrodAll enc Try.prog W 0 (fun _ => true) true Try.f3.params.toList args.toList ds p := hA0
  rw [Try.params3] at hA hval
  obtain ⟨v0, vs0, d0, ds0, p0, q0, hargs, rfl, rfl, h0, r0⟩ := trodAll_cons hA
  obtain ⟨v1, vs1, d1, ds1, p1, q1, rfl, rfl, rfl, h1, r1⟩ := trodAll_cons r0
  obtain ⟨v2, vs2, d2, ds2, p2, q2, rfl, rfl, rfl, h2, r2⟩ := trodAll_cons r1
  obtain ⟨v3, vs3, d3, ds3, p3, q3, rfl, rfl, rfl, h3, r3⟩ := trodAll_cons r2
  obtain ⟨v4, vs4, d4, ds4, p4, q4, rfl, rfl, rfl, h4, r4⟩ := trodAll_cons r3
  obtain ⟨rfl, rfl, rfl⟩ := trodAll_nil r4
  obtain rfl : args = #[v0, v1, v2, v3, v4] := by cases args; simp_all
  obtain ⟨rfl, rfl⟩ := trodVars_none hV
  have b0 : Rows.uptoBulk d0 ≤ 1048576 := Ov.bulk_of hk (by simp)
  have b1 : Rows.uptoBulk d1 ≤ 1048576 := Ov.bulk_of hk (by simp)
  have b2 : Rows.uptoBulk d2 ≤ 1048576 := Ov.bulk_of hk (by simp)
  have b3 : Rows.uptoBulk d3 ≤ 1048576 := Ov.bulk_of hk (by simp)
  have b4 : Rows.uptoBulk d4 ≤ 1048576 := Ov.bulk_of hk (by simp)
  obtain ⟨a0, rfl, rfl, rfl, w0⟩ := open_int Try.underlying3 (hval 0 3 v0 rfl rfl) h0
  obtain ⟨a1, rfl, rfl, rfl, w1⟩ := open_int Try.underlying3 (hval 1 3 v1 rfl rfl) h1
  obtain ⟨a2, rfl, rfl, rfl, w2⟩ := open_string Try.underlying9 (hval 2 9 v2 rfl rfl) h2
  have s2 : a2.size ≤ 1048576 := Ov.text_small b2
  obtain ⟨a3, len3, cap3, rfl⟩ := okWide_slice Try.underlying22 (hval 3 22 v3 rfl rfl)
  have k3 := h3
  have lt3 : ∀ x ∈ p3, x.block < W.heap.size := by obtain ⟨m, hm⟩ := k3; exact DataW.trod_lt m _ _ _ hm
  obtain ⟨z3, w3⟩ : ∃ z : (Nat → ByteArray), Ov.StrInS W a3 len3 cap3 z := Ov.strs_of_s h3 b3
  obtain ⟨a4, rfl, rfl, rfl, w4⟩ := open_string Try.underlying9 (hval 4 9 v4 rfl rfl) h4
  have s4 : a4.size ≤ 1048576 := Ov.text_small b4
  clear hA0 hval0
  refine (walk a0 a1 a2 a3 len3 cap3 z3 a4 W w0 w1 w2 w3 w4 s2 s4).mono fun e W' ⟨he, bel⟩ => ?_
  subst he
  exact ⟨_, rfl, _, _, _, [], _, [], hW', trodAll_mk1 (shut_bool Try.underlying4 _), (trodAll_cons_mk (shut_int Try.underlying3 w0) (trodAll_cons_mk (shut_int Try.underlying3 w1) (trodAll_cons_mk (shut_string Try.underlying9 w2) (trodAll_cons_mk (Below.trod laidOut (by kernel_rfl) (of_decide_eq_true (by kernel_rfl)) k3 bel lt3) (trodAll_cons_mk (shut_string Try.underlying9 w4) trodAll_mk0))))), rfl, bel.frame _, fun h => by cases h⟩

theorem over : Rows.tapeBackUptoRow.holds Try.pinned (Rows.OpenSpec.upto Rows.tapeBackSpec) :=
  OpenClaim.holds_of_cond 3 Try.f3 rfl rfl rfl rfl rfl rfl rfl ⟨rfl, rfl, rfl, rfl, rfl⟩ rfl rfl rfl rfl rfl (by kernel_rfl) Try.func3 (by kernel_rfl)
    (of_decide_eq_true (by kernel_rfl)) (by unfold Func.isWrapper; first | (rw [if_pos (by decide +kernel)]; kernel_rfl) | (rw [if_neg (by decide +kernel)]; exact ⟨rfl, rfl⟩))
    (fun os started H enc _ F => lifted os started H enc F)

/-- ████ THE STATEMENT ████ -/
theorem proved : Rows.TapeBackUptoSaid := over
#print axioms proved
end Go.Proofs.Ytajdlaihdebmmaa.tapeBack
