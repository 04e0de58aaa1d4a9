/-
  Proved: for every input the law CrcSums returns true, and leaves its arguments as they were. No condition.
-/
import Derived.Test.YtkaofakcahnagaaRows
import Derived.WalkKit
import Derived.ProofKit
import Derived.OpenShut
import Derived.ShutString
import Derived.Test.YtkaofakcahnagaaCrLaws
import Derived.Test.YtkaofakcahnagaaOvOwn
namespace Go.Proofs.Ytkaofakcahnagaa.crcSums
open Go.ChangeShapes Go.WideShapes Go.ChangeAt Go.RowKit
open Go.ChangeMaps (open_string shut_string)
set_option linter.unusedVariables false      -- a walk need not use every 'w<i>' (that an integer argument fits its kind)

theorem own : ownKnob Try.prog.godebug = none := by kernel_rfl

open Go.Proofs.Ytkaofakcahnagaa.Cr Go.Proofs.Ytkaofakcahnagaa.Ov
/-- Three texts, made one. -/
def x3 (a b c : ByteArray) : Nat → List UInt8
  | 0 => []
  | k + 1 => x3 a b c k ++ [a.data.toList.getD k 0 ^^^ b.data.toList.getD k 0 ^^^ c.data.toList.getD k 0]
theorem x3_length (a b c : ByteArray) (k : Nat) : (x3 a b c k).length = k := by
  induction k with
  | zero => rfl
  | succ k ih => simp [x3, ih]
theorem getD_at (a : ByteArray) (k : Nat) (h : k < a.size) : a.data.toList.getD k 0 = a[k] := by
  have e : a.data[k]? = some a[k] := Array.getElem?_eq_getElem h
  simp [List.getD, e]
theorem take_len (a : ByteArray) (k : Nat) (h : k ≤ a.size) : (a.data.toList.take k).length = k := by simp; omega
theorem x3_bv (a b c : ByteArray) (k : Nat) (ha : k ≤ a.size) (hb : k ≤ b.size) (hc : k ≤ c.size) :
    bv (x3 a b c k) = bv (a.data.toList.take k) ^^^ bv (b.data.toList.take k) ^^^ bv (c.data.toList.take k) := by
  induction k with
  | zero => simp [x3, bv]
  | succ k ih =>
    rw [x3, bv_snoc, x3_length, ih (by omega) (by omega) (by omega), getD_at a k (by omega), getD_at b k (by omega), getD_at c k (by omega),
      take_snoc a k (by omega), take_snoc b k (by omega), take_snoc c k (by omega), bv_snoc, bv_snoc, bv_snoc, take_len a k (by omega), take_len b k (by omega), take_len c k (by omega),
      UInt8.toNat_xor, UInt8.toNat_xor, xor_mul, xor_mul]
    ac_rfl
theorem x3_sum (a b c : ByteArray) (h1 : a.size = b.size) (h2 : b.size = c.size) : sm a.data.toList ^^^ sm b.data.toList ^^^ sm c.data.toList = sm (x3 a b c a.size) :=
  sm_three (by rw [size_list, size_list, h1]) (by rw [size_list, size_list, h1, h2]) (by rw [x3_length, size_list]) (by
    rw [x3_bv a b c a.size (Nat.le_refl _) (by omega) (by omega), take_all]
    rw [h1, take_all, h2, take_all])
theorem x3_bits (a b c : ByteArray) (k : Nat) (ha : k < a.size) (hb : k < b.size) (hc : k < c.size) :
    bits .xor .u8 (bits .xor .u8 (a[k].toNat : Int) (b[k].toNat : Int)) (c[k].toNat : Int) = ((a.data.toList.getD k 0 ^^^ b.data.toList.getD k 0 ^^^ c.data.toList.getD k 0).toNat : Int) := by
  rw [getD_at a k ha, getD_at b k hb, getD_at c k hc, UInt8.toNat_xor, UInt8.toNat_xor, bits_xor_u8 _ _ (UInt8.toNat_lt _) (UInt8.toNat_lt _), bits_xor_u8 _ _ (Nat.xor_lt_two_pow (n := 8) (UInt8.toNat_lt _) (UInt8.toNat_lt _)) (UInt8.toNat_lt _)]
theorem two_awake (a b c : ByteArray) (w : World) (h : 3000 < a.size ∨ a.size ≠ b.size ∨ b.size ≠ c.size) (ha : a.size ≤ 9223372036854775807) (hb : b.size ≤ 9223372036854775807) (hc : c.size ≤ 9223372036854775807) :
    Calls Try.prog 4 #[.string a, .string b, .string c] w fun e w' => e = .returned (.bool true) ∧ Below w.heap.size w w' := by
  by_cases h1 : 3000 < a.size
  · clear h
    go_enter Try.func4, Try.ntmps4
    go_wp2_with fail
    refine (awake_any _).mono ?_
    rintro e w1 ⟨rfl, hb⟩
    have HB := Lib.hid hb; clear hb
    go_wp2_with fail
    refine (awake_any _).mono ?_
    rintro e w2 ⟨rfl, hb2⟩
    have HB2 := Lib.hid (Below.next HB.out hb2); clear hb2
    go_wp2_with fail
    go_ret
    exact ⟨rfl, HB2.out⟩
  · by_cases h2 : a.size = b.size
    · have h3 : b.size ≠ c.size := by omega
      have t1 : ((a.size : Int) != (b.size : Int)) = false := by simp; omega
      have t2 : ((b.size : Int) != (c.size : Int)) = true := by simp; omega
      have t1' : (a.size != b.size) = false := by simp; omega
      have t2' : (b.size != c.size) = true := by simp; omega
      clear h h2 h3
      go_enter Try.func4, Try.ntmps4
      go_wp2_with fail
      refine (awake_any _).mono ?_
      rintro e w1 ⟨rfl, hb⟩
      have HB := Lib.hid hb; clear hb
      go_wp2_with fail
      refine (awake_any _).mono ?_
      rintro e w2 ⟨rfl, hb2⟩
      have HB2 := Lib.hid (Below.next HB.out hb2); clear hb2
      go_wp2_with fail
      go_ret
      exact ⟨rfl, HB2.out⟩
    · have t1 : ((a.size : Int) != (b.size : Int)) = true := by simp; omega
      have t1' : (a.size != b.size) = true := by simp; omega
      clear h h2
      go_enter Try.func4, Try.ntmps4
      go_wp2_with fail
      refine (awake_any _).mono ?_
      rintro e w1 ⟨rfl, hb⟩
      have HB := Lib.hid hb; clear hb
      go_wp2_with fail
      refine (awake_any _).mono ?_
      rintro e w2 ⟨rfl, hb2⟩
      have HB2 := Lib.hid (Below.next HB.out hb2); clear hb2
      go_wp2_with fail
      go_ret
      exact ⟨rfl, HB2.out⟩
theorem sum_is {t : ByteArray} {m : Nat} (h : m = sm t.data.toList) (w : World) (ht : t.size ≤ 1000000) :
    Calls Try.prog 11 #[.string t] w fun e w' => e = .returned (.int .u32 (m : Nat)) ∧ Below w.heap.size w w' := by rw [h]; exact sum_any t w ht
def RelX (w : World) (a b c : ByteArray) (V I : Value) (wr : World) : Prop := ∃ k : Nat, k ≤ a.size ∧ I = .int .i64 (k : Int) ∧ wr.ownsRow w.heap.size 5 1 V k (vals (x3 a b c k)) ∧ Below w.heap.size w wr
set_option maxRecDepth 100000 in
set_option maxHeartbeats 2000000 in
theorem alike (a b c : ByteArray) (w : World) (hm : a.size ≤ 3000) (h1 : a.size = b.size) (h2 : b.size = c.size) :
    Calls Try.prog 4 #[.string a, .string b, .string c] w fun e w' => e = .returned (.bool true) ∧ Below w.heap.size w w' := by
  obtain ⟨i8, hi8, hz8, hs8, hb8⟩ := info_parts info8
  have HI8 := Lib.hid hi8; have HZ8 := Lib.hid hz8; have HS8 := Lib.hid hs8; have HB8 := Lib.hid hb8
  clear hi8 hz8 hs8 hb8
  obtain ⟨A, hA⟩ : ∃ m, m = sm a.data.toList := ⟨_, rfl⟩
  obtain ⟨B, hB⟩ : ∃ m, m = sm b.data.toList := ⟨_, rfl⟩
  obtain ⟨C, hC⟩ : ∃ m, m = sm c.data.toList := ⟨_, rfl⟩
  have lA : A < 4294967296 := by rw [hA]; exact sm_lt _
  have lB : B < 4294967296 := by rw [hB]; exact sm_lt _
  have lC : C < 4294967296 := by rw [hC]; exact sm_lt _
  have HX : Hid (bits .xor .u32 (bits .xor .u32 (A : Int) (B : Int)) (C : Int) = ((sm (x3 a b c a.size) : Nat) : Int)) := by
    show _ = _
    rw [bits_xor_u32 _ _ lA lB, bits_xor_u32 _ _ (Nat.xor_lt_two_pow (n := 32) lA lB) lC, hA, hB, hC, x3_sum a b c h1 h2]
  have HA := Lib.hid hA; have HBs := Lib.hid hB; have HC := Lib.hid hC
  have t1 : ((a.size : Int) != (b.size : Int)) = false := by simp; omega
  have t2 : ((b.size : Int) != (c.size : Int)) = false := by simp; omega
  have t1' : (a.size != b.size) = false := by simp; omega
  have t2' : (b.size != c.size) = false := by simp; omega
  have H1 := Lib.hid h1; have H2 := Lib.hid h2
  have hmb : b.size ≤ 3000 := by omega
  have hmc : c.size ≤ 3000 := by omega
  clear hA hB hC h1 h2 lA lB lC
  go_enter Try.func4, Try.ntmps4
  go_wp2_with fail
  refine (awake_any _).mono ?_
  rintro e w1 ⟨rfl, hb⟩
  have HB1 := Lib.hid hb; clear hb
  go_wp2_with fail
  clear t1 t2 t1' t2'
  go_loopw [7, 8] (fun V I wr => RelX w1 a b c V I wr) (fun _ I _ => a.size - (intOf I).toNat)
  case atStart => exact ⟨0, by omega, rfl, World.ownsRow_nil _ _ _ _, Below.refl _ _⟩
  case round =>
    obtain ⟨k, hk, rfl, hO, hB⟩ := hrel
    have HO := Lib.hid hO; have HB := Lib.hid hB; clear hO hB
    by_cases hlt : k < a.size
    · have k2 : k < b.size := by rw [← H1.out]; exact hlt
      have k3 : k < c.size := by rw [← H2.out]; exact k2
      have k1' : (k : Int) < (a.size : Int) := by omega
      have k2' : (k : Int) < (b.size : Int) := by omega
      have k3' : (k : Int) < (c.size : Int) := by omega
      have HK : Hid (vals (x3 a b c (k + 1)) = vals (x3 a b c k) ++ [.int .u8 (bits .xor .u8 (bits .xor .u8 (a[k].toNat : Int) (b[k].toNat : Int)) (c[k].toNat : Int))]) := by
        show _ = _
        rw [x3, vals_snoc, x3_bits a b c k hlt k2 k3]
      go_wp2_with fail
      have HNW := Lib.hid (one_news wr (.int .u8 (bits .xor .u8 (bits .xor .u8 (a[k].toNat : Int) (b[k].toNat : Int)) (c[k].toNat : Int))) 5)
      have HBS := Lib.hid (one_base HB.out.size (.cells #[.int .u8 (bits .xor .u8 (bits .xor .u8 (a[k].toNat : Int) (b[k].toNat : Int)) (c[k].toNat : Int))] 5))
      have HML : Hid (k + 1 ≤ maxLen) := by show _ ≤ _; unfold maxLen; omega
      have HMB : Hid ((k + 1) * 1 ≤ 140737488355328) := by show _ ≤ _; omega
      have HBA : Hid (Below w1.heap.size w1 (wr.alloc (.cells #[.int .u8 (bits .xor .u8 (bits .xor .u8 (a[k].toNat : Int) (b[k].toNat : Int)) (c[k].toNat : Int))] 5))) := HB.out.alloc HB.out.size _
      go_region_law (first
        | (refine step_own _ rfl (.tmp 37) (.tmp 49) 25 rfl w1.heap.size 5 i8 (.int .u8 0) 1 1 Try.underlying25 HI8.out HZ8.out HS8.out HB8.out rfl (by decide) u7 k (vals (x3 a b c k)) (by simp [Act.eval]) (by exact HO.out.alloc _) ⟨wr.heap.size, 0, none⟩ 1 1 [.int .u8 (bits .xor .u8 (bits .xor .u8 (a[k].toNat : Int) (b[k].toNat : Int)) (c[k].toNat : Int))] (by simp [Act.eval]) rfl (by exact HNW.out) (one_one rfl) HML.out HMB.out (by exact HBS.out) ?_
           intro v' w3 hown' hgrow _
           have HN : Hid (w3.ownsRow w1.heap.size 5 1 v' (k + 1) (vals (x3 a b c (k + 1)))) := by
             show World.ownsRow _ _ _ _ _ _ _
             rw [HK.out]; exact hown'
           have HB3 : Hid (Below w1.heap.size w1 w3) := (below_drewN HBA.out 1).grown hgrow (by exact HBS.out) (fun g e => (HO.out.lt g e).1)
           clear hown' hgrow))
      all_goals
        go_wp2
        go_roundw
        case rel => exact ⟨k + 1, by omega, by go_num, HN.out, HB3.out⟩
        case measure => simp [intOf]; omega
    · obtain rfl : k = a.size := by omega
      have k1 : decide (a.size < a.size) = false := by simp
      have hcv := run_own_text (x3_length a b c a.size).symm HO.out
      have HD : Hid (sm (x3 a b c a.size) = sm (tx (x3 a b c a.size)).data.toList) := by show _ = _; rw [tx_list]
      have HZ : Hid ((tx (x3 a b c a.size)).size ≤ 1000000) := by show _ ≤ _; rw [tx_size, x3_length]; omega
      generalize sm (x3 a b c a.size) = D at *
      generalize tx (x3 a b c a.size) = d at *
      have hq : (bits .xor .u32 (bits .xor .u32 (A : Int) (B : Int)) (C : Int) == (D : Int)) = true := by rw [HX.out]; simp
      have HSa : Hid (a.size ≤ 1000000) := by show _ ≤ _; omega
      have HSb : Hid (b.size ≤ 1000000) := by show _ ≤ _; omega
      have HSc : Hid (c.size ≤ 1000000) := by show _ ≤ _; omega
      go_wp2_with fail
      refine wp_over (by kernel_rfl) (by kernel_rfl) ?_
      repeat (go_big_quiet_step ((go_at_call 11; first
        | with_reducible exact over_make _ (sum_is HA.out _ HSa.out)
        | with_reducible exact over_make _ (sum_is HBs.out _ HSb.out)
        | with_reducible exact over_make _ (sum_is HC.out _ HSc.out)
        | with_reducible exact over_make _ (sum_is HD.out _ HZ.out))))
      refine wpQuiet_nil ?_
      rintro wq ⟨⟨w6, hb⟩, hw⟩
      obtain rfl : w6 = wq := hw.symm
      have HB6 : Hid (Below w.heap.size w w6) := Below.next (Below.next HB1.out HB.out) hb
      clear hb hw
      go_wp2_with fail
      go_ret
      exact ⟨rfl, HB6.out⟩
/-! ### STEP 1: THE WALK: the Go text returns true. 'Grown w w'': the world has at most new blocks (Derived/RowKit3.lean). Part the cases AHEAD of 'go_enter' where a test parts the walk; take each callee by a contract of your own. -/
theorem walk (a0 : ByteArray) (a1 : ByteArray) (a2 : ByteArray) (w0 : a0.size ≤ maxLen) (w1 : a1.size ≤ maxLen) (w2 : a2.size ≤ maxLen) (w : World) :
    Calls Try.prog 4 #[.string a0, .string a1, .string a2] w fun e w' => e = .returned (.bool true) ∧ Below w.heap.size w w' := by
  unfold maxLen at w0 w1 w2
  by_cases h : 3000 < a0.size ∨ a0.size ≠ a1.size ∨ a1.size ≠ a2.size
  · exact two_awake a0 a1 a2 w h (by omega) (by omega) (by omega)
  · exact alike a0 a1 a2 w (by omega) (by omega) (by omega)

/-! ### THE ROW's STEP: WRITTEN OUT: LEAVE IT -/
set_option maxRecDepth 100000 in
theorem lifted (os : Os) (started : os.Started) (H : Type) (enc : TypeId × Value → H) :
    ReturnsInHanded {} Try.checked os 4 .any (Rows.crcSumsSpec.pre6 enc Try.prog Try.f4 Rows.crcSumsRow.domain false) (Rows.crcSumsSpec.post enc Try.prog Try.f4 false true false false) := by
  refine returnsInHanded_of_change (C := Try.checked) own started (by kernel_rfl) Try.func4
    (ChangeSpec.witness6 (enc := enc) (C := Try.checked) false ⟨#[], #[.string ByteArray.empty, .string ByteArray.empty, .string ByteArray.empty], []⟩ 8 (by kernel_rfl) (by kernel_rfl) (by kernel_rfl) (by kernel_rfl)) ?_
  intro W base args ds gs before hval0 hW hcnd _
  have hval : ∀ (j : Nat) t v, Try.f4.params[j]? = some t → args[j]? = some v → Value.okWide Try.prog W .any base t v := hval0
  have hW' := hW
  obtain ⟨p, q, hA0, hV, rfl, hfz, hnd⟩ := hW
  have hA : DataW.TrodAll enc Try.prog W 0 (fun _ => true) true Try.f4.params.toList args.toList ds p := hA0
  rw [Try.params4] at hA hval
  obtain ⟨v0, vs0, d0, ds0, p0, q0, hargs, rfl, rfl, h0, r0⟩ := trodAll_cons hA
  obtain ⟨v1, vs1, d1, ds1, p1, q1, rfl, rfl, rfl, h1, r1⟩ := trodAll_cons r0
  obtain ⟨v2, vs2, d2, ds2, p2, q2, rfl, rfl, rfl, h2, r2⟩ := trodAll_cons r1
  obtain ⟨rfl, rfl, rfl⟩ := trodAll_nil r2
  obtain rfl : args = #[v0, v1, v2] := by cases args; simp_all
  obtain ⟨rfl, rfl⟩ := trodVars_none hV
  obtain ⟨a0, rfl, rfl, rfl, w0⟩ := open_string Try.underlying9 (hval 0 9 v0 rfl rfl) h0
  obtain ⟨a1, rfl, rfl, rfl, w1⟩ := open_string Try.underlying9 (hval 1 9 v1 rfl rfl) h1
  obtain ⟨a2, rfl, rfl, rfl, w2⟩ := open_string Try.underlying9 (hval 2 9 v2 rfl rfl) h2
  clear hA0 hval0
  simp only [List.append_nil] at hW'
  refine (walk a0 a1 a2 w0 w1 w2 W).mono fun e W' ⟨he, bel⟩ => ?_
  subst he
  exact ⟨_, rfl, _, _, _, [], _, [], hW', trodAll_mk1 (shut_bool Try.underlying4 _), (trodAll_cons_mk (shut_string Try.underlying9 w0) (trodAll_cons_mk (shut_string Try.underlying9 w1) (trodAll_cons_mk (shut_string Try.underlying9 w2) trodAll_mk0))), rfl, bel.frame _, fun h => by cases h⟩

theorem over : Rows.crcSumsRow.holds Try.pinned (OpenSpec.ofChange Rows.crcSumsSpec) :=
  OpenClaim.holds_of_wide 4 Try.f4 rfl rfl rfl rfl rfl rfl rfl ⟨rfl, rfl, rfl, rfl, rfl⟩ rfl rfl rfl rfl rfl (by kernel_rfl) Try.func4 (by kernel_rfl)
    (of_decide_eq_true (by kernel_rfl)) (by unfold Func.isWrapper; first | (rw [if_pos (by decide +kernel)]; kernel_rfl) | (rw [if_neg (by decide +kernel)]; exact ⟨rfl, rfl⟩))
    (fun os started H enc _ => lifted os started H enc)

/-- ████ THE STATEMENT ████ -/
theorem proved : Rows.CrcSumsSaid :=
  over
#print axioms proved
end Go.Proofs.Ytkaofakcahnagaa.crcSums
