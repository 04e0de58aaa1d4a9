/-
  Proved: for every input the law CrcBursts returns true, and leaves its arguments as they were. No condition.
-/
import Derived.Test.YtkaofakcahnagaaRows
import Derived.WalkKit
import Derived.ProofKit
import Derived.OpenShut
import Derived.ShutString
import Derived.Test.YtkaofakcahnagaaCrBits
namespace Go.Proofs.Ytkaofakcahnagaa.crcBursts
open Go.ChangeShapes Go.WideShapes Go.ChangeAt Go.RowKit
open Go.ChangeMaps (open_string shut_string)
set_option linter.unusedVariables false      -- a walk need not use every 'w<i>' (that an integer argument fits its kind)

theorem own : ownKnob Try.prog.godebug = none := by kernel_rfl

open Go.Proofs.Ytkaofakcahnagaa.Cr Go.Proofs.Ytkaofakcahnagaa.Ov
theorem turn_byte (b : UInt8) (r : Nat) (hr : r < 8) : bits .xor .u8 (b.toNat : Int) (IntKind.u8.wrap (2 ^ r)) = ((b ^^^ UInt8.ofNat (2 ^ r)).toNat : Int) := by
  have h8 : 2 ^ r < 256 := by
    show 2 ^ r < 2 ^ 8
    exact Nat.pow_lt_pow_right (show 1 < 2 by decide) hr
  have e : IntKind.u8.wrap (2 ^ r) = ((2 ^ r : Nat) : Int) := by
    have e2 : (2 : Int) ^ r = ((2 ^ r : Nat) : Int) := (Int.natCast_pow 2 r).symm
    rw [e2, IntKind.wrap_u8]
    generalize 2 ^ r = x at h8
    omega
  rw [e, bits_xor_u8 _ _ (UInt8.toNat_lt _) h8, UInt8.toNat_xor, UInt8.toNat_ofNat', Nat.mod_eq_of_lt (by simpa using h8)]
theorem turn_at {l m : List UInt8} {c f M k q p r : Nat} (e : bv l = bv m ^^^ chg c M k * 2 ^ f) (hb : c / 2 ^ k % 2 = 1) (hk : k < M) (hq : q = f + k) (hp : p = q / 8) (hr : r = q % 8) (hpl : p < l.length) :
    bv (l.set p (l[p] ^^^ UInt8.ofNat (2 ^ r))) = bv m ^^^ chg c M (k + 1) * 2 ^ f := by
  subst hr; subst hp; subst hq
  exact turn_bit e hb hk hpl
theorem chg_on {c M k : Nat} (hb : c / 2 ^ k % 2 = 1) (hk : k < M) : chg c M (k + 1) ≠ 0 := by
  rw [chg, if_pos ⟨hb, hk⟩]; exact chg_ne c M k
theorem open_burst {s : ByteArray} {l : List UInt8} (h : s.data.toList = l) (h7 : (opv l).2 = 7) (hm : s.size ≤ 1000000) (w : World) :
    Calls Try.prog 9 #[.string s] w fun e w' => e = .returned (.tuple #[.string (tx (opv l).1), .int .i64 7]) ∧ Below w.heap.size w w' := by
  have q := open_any s w hm
  rw [h, h7] at q
  exact q
theorem sum_is {t : ByteArray} {m : Nat} (h : m = sm t.data.toList) (w : World) (ht : t.size ≤ 1000000) :
    Calls Try.prog 11 #[.string t] w fun e w' => e = .returned (.int .u32 (m : Nat)) ∧ Below w.heap.size w w' := by rw [h]; exact sum_any t w ht
def RelU (w : World) (s : ByteArray) (c f M : Nat) (I : Value) (wr : World) : Prop := ∃ (k : Nat) (l : List UInt8), k ≤ 32 ∧ I = .int .i64 (k : Int) ∧ l.length = s.size ∧ bv l = bv s.data.toList ^^^ chg c M k * 2 ^ f ∧
  (chg c M k = 0 → l = s.data.toList) ∧ RowB wr w.heap.size l ∧ Below w.heap.size w wr
set_option maxRecDepth 100000 in
set_option maxHeartbeats 2000000 in
theorem main (s : ByteArray) (a c : Nat) (w : World) (h : s.size ≤ 3000) (h0 : 0 < s.size) (ha : a < 65536) (hc : c < 4294967296) (hc0 : 0 < c) :
    Calls Try.prog 3 #[.string s, .int .u16 (a : Int), .int .u32 (c : Int)] w fun e w' => e = .returned (.bool true) ∧ Below w.heap.size w w' := by
  have hk : a % (8 * s.size) < 8 * s.size := Nat.mod_lt a (by omega)
  have ek : (a : Int) % (8 * (s.size : Int)) = ((a % (8 * s.size) : Nat) : Int) := by simp
  generalize a % (8 * s.size) = f at *
  have t0 : ((s.size : Int) == 0) = false := by rw [beq_eq_false_iff_ne]; omega
  have t1 : ((c : Int) == 0) = false := by rw [beq_eq_false_iff_ne]; omega
  go_enter Try.func3, Try.ntmps3
  go_wp2_with fail
  refine (awake_any _).mono ?_
  rintro e w1 ⟨rfl, hb⟩
  have HB1 := Lib.hid hb; clear hb
  obtain ⟨cap, wb, hcv, hrow, hbw⟩ := bytes_made s w1
  have HR0 := Lib.hid hrow; have HB2 := Lib.hid hbw; clear hrow hbw
  go_wp2_with fail
  rw [ek]
  clear t0 t1 hcv ek
  go_loopw [9] (fun I wr => RelU w1 s c f (8 * s.size - f) I wr) (fun I _ => 32 - (intOf I).toNat)
  case atStart => exact ⟨0, s.data.toList, by omega, rfl, size_list s, by simp [chg], fun _ => rfl, HR0.out, HB2.out⟩
  case round =>
    obtain ⟨k, l, hk32, rfl, hl, hv, hz, hR, hB⟩ := hrel
    have HL := Lib.hid hl; have HV := Lib.hid hv; have HZ := Lib.hid hz; have HR := Lib.hid hR; have HB := Lib.hid hB
    clear hl hv hz hR hB
    by_cases hlt : k < 32
    · have eb := bit_of c k hc
      by_cases hbit : c / 2 ^ k % 2 = 1
      · have eb1 : bits .and .u32 ((c : Int) / 2 ^ k) 1 = 1 := by rw [eb, hbit]; rfl
        have HBit := Lib.hid hbit
        clear eb hbit
        by_cases hin : f + k < 8 * s.size
        · have hin' : (f : Int) + (k : Int) < 8 * (s.size : Int) := by omega
          go_wp2_with fail
          obtain ⟨q, hq'⟩ : ∃ q, q = f + k := ⟨_, rfl⟩
          obtain ⟨p, hp'⟩ : ∃ p, p = q / 8 := ⟨_, rfl⟩
          obtain ⟨r, hr'⟩ : ∃ r, r = q % 8 := ⟨_, rfl⟩
          have g1 : IntKind.i64.wrap ((f : Int) + (k : Int)) = (q : Int) := by rw [IntKind.wrap_i64]; omega
          have g2 : (q : Int).tdiv 8 = (p : Int) := by rw [Int.tdiv_eq_ediv_of_nonneg (by omega)]; omega
          have g3 : (q : Int).tmod 8 = (r : Int) := by rw [Int.tmod_eq_emod_of_nonneg (by omega)]; omega
          have g5 : IntKind.i64.wrap (p : Int) = (p : Int) := by rw [IntKind.wrap_i64]; omega
          have g6 : IntKind.i64.wrap (r : Int) = (r : Int) := by rw [IntKind.wrap_i64]; omega
          have p1 : p < s.size := by omega
          have p2 : (p : Int) < (s.size : Int) := by omega
          have r1 : r < 8 := by omega
          have hpl : p < l.length := by rw [HL.out]; exact p1
          have hc1 := HR.out.cell p hpl
          have hf1 := HR.out.thaw p hpl
          have HQ := Lib.hid hq'; have HP := Lib.hid hp'; have HRr := Lib.hid hr'
          clear hq' hp' hr'
          go_still_tail 14, (by kernel_rfl)
          have HS : Hid (bits .xor .u8 (l[p].toNat : Int) (IntKind.u8.wrap (2 ^ r)) = ((l[p] ^^^ UInt8.ofNat (2 ^ r)).toNat : Int)) := turn_byte l[p] r r1
          have HN : Hid (bv (l.set p (l[p] ^^^ UInt8.ofNat (2 ^ r))) = bv s.data.toList ^^^ chg c (8 * s.size - f) (k + 1) * 2 ^ f) := turn_at HV.out HBit.out (by omega) HQ.out HP.out HRr.out hpl
          have HNZ : Hid (chg c (8 * s.size - f) (k + 1) ≠ 0) := chg_on HBit.out (by omega)
          change wpList _ _ _ _ _ wr.drew
          generalize IntKind.u8.wrap (2 ^ r) = v at HS ⊢
          go_wp2_with fail
          go_roundw
          case rel => exact ⟨k + 1, l.set p (l[p] ^^^ UInt8.ofNat (2 ^ r)), by omega, by go_num, by rw [List.length_set]; exact HL.out, HN.out, fun e => absurd e HNZ.out, by rw [HS.out]; exact (HR.out.set p hpl _).drewN 1, below_drewN (HB.out.setCell (Nat.le_refl _) _) 1⟩
          case measure => simp [intOf]; omega
        · have hin' : decide ((f : Int) + (k : Int) < 8 * (s.size : Int)) = false := by simp; omega
          have HC : Hid (chg c (8 * s.size - f) (k + 1) = chg c (8 * s.size - f) k) := if_neg (by omega)
          go_wp2_with fail
          go_roundw
          case rel => exact ⟨k + 1, l, by omega, by go_num, HL.out, by rw [HC.out]; exact HV.out, by rw [HC.out]; exact HZ.out, HR.out, HB.out⟩
          case measure => simp [intOf]; omega
      · have h2 : c / 2 ^ k % 2 = 0 := by omega
        have eb1 : bits .and .u32 ((c : Int) / 2 ^ k) 1 = 0 := by rw [eb, h2]; rfl
        have HC : Hid (chg c (8 * s.size - f) (k + 1) = chg c (8 * s.size - f) k) := if_neg (fun e => hbit e.1)
        clear eb hbit h2
        go_wp2_with fail
        go_roundw
        case rel => exact ⟨k + 1, l, by omega, by go_num, HL.out, by rw [HC.out]; exact HV.out, by rw [HC.out]; exact HZ.out, HR.out, HB.out⟩
        case measure => simp [intOf]; omega
    · obtain rfl : k = 32 := by omega
      have HCV := Lib.hid (fun q : Over wr => RowB.text (c := cap) HR.out HL.out.symm q)
      have hcv0 : (convert 25 9 (.slice (some ⟨w1.heap.size, 0, none⟩) s.size cap)).run Try.prog wr = .ok (.string (tx l)) wr := HCV.out ⟨wr, Below.refl _ _⟩
      by_cases hsame : l = s.data.toList
      · have ht : ((tx l).toList == s.toList) = true := by rw [hsame, tx_of]; exact eq_self _
        have HS := Lib.hid hsame; clear hsame
        generalize tx l = d at *
        go_wp2_with fail
        go_ret
        exact ⟨rfl, Below.next HB1.out HB.out⟩
      · have ht : ((tx l).toList == s.toList) = false := by
          rw [beq_eq_false_iff_ne, ByteArray.toList_eq, ByteArray.toList_eq, tx_list]; exact hsame
        have hdif : sm l ≠ sm s.data.toList := burst (by rw [HL.out, size_list]) HV.out (fun e => hsame (HZ.out e)) (chg_lt c (8 * s.size - f) 32) (by rw [size_list]; omega)
        have HE : Hid (((tx l) ++ (tx (sl s.data.toList)).extract s.size (tx (sl s.data.toList)).size).data.toList = l ++ sb (sm s.data.toList)) := by
          show _ = _
          rw [list_append, tx_list, ext_drop, tx_list, tx_list]
          congr 1
          rw [← size_list s]; simp [sl]
        have HO : Hid ((opv (l ++ sb (sm s.data.toList))).2 = 7) := opv_bad hdif
        obtain ⟨D, hD⟩ : ∃ D, D = sm l := ⟨_, rfl⟩
        obtain ⟨E, hE⟩ : ∃ E, E = sm s.data.toList := ⟨_, rfl⟩
        have hn : ((D : Int) != (E : Int)) = true := by rw [hD, hE, bne_iff_ne]; exact fun e => hdif (by exact_mod_cast e)
        have hn' : (D != E) = true := by rw [hD, hE, bne_iff_ne]; exact hdif
        have HD : Hid (D = sm (tx l).data.toList) := by show _ = _; rw [tx_list]; exact hD
        have HE2 := Lib.hid hE
        clear hD hE hdif hsame
        have hSz : (tx (sl s.data.toList)).size = s.size + 4 := by rw [sl_size, size_list]
        have hdz : (tx l).size = s.size := by rw [tx_size]; exact HL.out
        have hS1 : s.size ≤ (tx (sl s.data.toList)).size := by omega
        have hS2 : (tx (sl s.data.toList)).size ≤ 3004 := by omega
        have hd1 : (tx l).size ≤ 3000 := by omega
        clear hSz hdz
        have HOP := Lib.hid (fun w => open_burst (s := (tx l) ++ (tx (sl s.data.toList)).extract s.size (tx (sl s.data.toList)).size) HE.out HO.out (by rw [ByteArray.size_append, ByteArray.size_extract]; omega) w)
        have HSE := Lib.hid (fun w => seal_any s w (by omega))
        generalize tx (opv (l ++ sb (sm s.data.toList))).1 = ob at HOP
        generalize tx (sl s.data.toList) = S at *
        generalize tx l = d at *
        have hS3 : (s.size : Int) ≤ (S.size : Int) := by omega
        have hadd : ¬ d.size + (S.extract s.size S.size).size > 9223372036854775807 := by rw [ByteArray.size_extract]; omega
        go_wp2_with fail
        have hcvq := HCV.out
        refine wp_over (by kernel_rfl) (by kernel_rfl) ?_
        repeat (go_big_quiet_step (first
          | (go_at_call 10; exact over_make _ (HSE.out _))
          | (go_at_call 9; exact over_make _ (HOP.out _))))
        refine wpQuiet_nil ?_
        rintro wq ⟨⟨w6, hb⟩, hw⟩
        obtain rfl : w6 = wq := hw.symm
        have HB6 : Hid (Below wr.heap.size wr w6) := hb
        clear hb hw hcvq hcv0
        have hcv6 : (convert 25 9 (.slice (some ⟨w1.heap.size, 0, none⟩) s.size cap)).run Try.prog w6 = .ok (.string d) w6 := HCV.out ⟨w6, HB6.out⟩
        go_wp2_with fail
        refine (sum_is HD.out _ (by omega)).mono ?_
        rintro e w7 ⟨rfl, hb7⟩
        have HB7 := Lib.hid (Below.next HB6.out hb7); clear hb7
        go_wp2_with fail
        refine (sum_is HE2.out _ (by omega)).mono ?_
        rintro e w8 ⟨rfl, hb8⟩
        have HB8 := Lib.hid (Below.next HB7.out hb8); clear hb8
        go_wp2_with fail
        go_ret
        exact ⟨rfl, Below.next (Below.next HB1.out HB.out) HB8.out⟩
set_option maxHeartbeats 1000000 in
theorem rest (s : ByteArray) (a c : Nat) (w : World) (h : 3000 < s.size ∨ s.size = 0 ∨ c = 0) (hm : s.size ≤ 9223372036854775807) :
    Calls Try.prog 3 #[.string s, .int .u16 (a : Int), .int .u32 (c : Int)] w fun e w' => e = .returned (.bool true) ∧ Below w.heap.size w w' := by
  by_cases h1 : 3000 < s.size
  · clear h
    go_enter Try.func3, Try.ntmps3
    go_wp2_with fail
    refine (awake_any _).mono ?_
    rintro e w1 ⟨rfl, hb⟩
    have HB := Lib.hid hb; clear hb
    go_wp2_with fail
    refine (awake_any _).mono ?_
    rintro e w2 ⟨rfl, hb2⟩
    have HB2 := Lib.hid (Below.next HB.out hb2); clear hb2
    go_wp2_with fail
    go_ret
    exact ⟨rfl, HB2.out⟩
  · by_cases h2 : s.size = 0
    · have t0 : ((s.size : Int) == 0) = true := by rw [beq_iff_eq]; omega
      have h3 : s.size ≤ 3000 := by omega
      clear h h2
      go_enter Try.func3, Try.ntmps3
      go_wp2_with fail
      refine (awake_any _).mono ?_
      rintro e w1 ⟨rfl, hb⟩
      have HB := Lib.hid hb; clear hb
      go_wp2_with fail
      refine (awake_any _).mono ?_
      rintro e w2 ⟨rfl, hb2⟩
      have HB2 := Lib.hid (Below.next HB.out hb2); clear hb2
      go_wp2_with fail
      go_ret
      exact ⟨rfl, HB2.out⟩
    · obtain rfl : c = 0 := by omega
      have t0 : ((s.size : Int) == 0) = false := by rw [beq_eq_false_iff_ne]; omega
      have h3 : s.size ≤ 3000 := by omega
      clear h h2
      go_enter Try.func3, Try.ntmps3
      go_wp2_with fail
      refine (awake_any _).mono ?_
      rintro e w1 ⟨rfl, hb⟩
      have HB := Lib.hid hb; clear hb
      go_wp2_with fail
      refine (awake_any _).mono ?_
      rintro e w2 ⟨rfl, hb2⟩
      have HB2 := Lib.hid (Below.next HB.out hb2); clear hb2
      go_wp2_with fail
      go_ret
      exact ⟨rfl, HB2.out⟩
/-! ### STEP 1: THE WALK: the Go text returns true. 'Grown w w'': the world has at most new blocks (Derived/RowKit3.lean). Part the cases AHEAD of 'go_enter' where a test parts the walk; take each callee by a contract of your own. -/
theorem walk (a0 : ByteArray) (a1 : Int) (a2 : Int) (w0 : a0.size ≤ maxLen) (w1 : (Lit.int .u16 a1).wf = true) (w2 : (Lit.int .u32 a2).wf = true) (w : World) :
    Calls Try.prog 3 #[.string a0, .int .u16 a1, .int .u32 a2] w fun e w' => e = .returned (.bool true) ∧ Below w.heap.size w w' := by
  unfold maxLen at w0
  obtain ⟨k, rfl, hk⟩ := u16_bd w1
  obtain ⟨c, rfl, hc⟩ := u32_bd w2
  by_cases h : 3000 < a0.size ∨ a0.size = 0 ∨ c = 0
  · exact rest a0 k c w h (by omega)
  · exact main a0 k c w (by omega) (by omega) hk hc (by omega)

/-! ### THE ROW's STEP: WRITTEN OUT: LEAVE IT -/
set_option maxRecDepth 100000 in
theorem lifted (os : Os) (started : os.Started) (H : Type) (enc : TypeId × Value → H) :
    ReturnsInHanded {} Try.checked os 3 .any (Rows.crcBurstsSpec.pre6 enc Try.prog Try.f3 Rows.crcBurstsRow.domain false) (Rows.crcBurstsSpec.post enc Try.prog Try.f3 false true false false) := by
  refine returnsInHanded_of_change (C := Try.checked) own started (by kernel_rfl) Try.func3
    (ChangeSpec.witness6 (enc := enc) (C := Try.checked) false ⟨#[], #[.string ByteArray.empty, .int .u16 0, .int .u32 0], []⟩ 8 (by kernel_rfl) (by kernel_rfl) (by kernel_rfl) (by kernel_rfl)) ?_
  intro W base args ds gs before hval0 hW hcnd _
  have hval : ∀ (j : Nat) t v, Try.f3.params[j]? = some t → args[j]? = some v → Value.okWide Try.prog W .any base t v := hval0
  have hW' := hW
  obtain ⟨p, q, hA0, hV, rfl, hfz, hnd⟩ := hW
  have hA : DataW.TrodAll enc Try.prog W 0 (fun _ => true) true Try.f3.params.toList args.toList ds p := hA0
  rw [Try.params3] at hA hval
  obtain ⟨v0, vs0, d0, ds0, p0, q0, hargs, rfl, rfl, h0, r0⟩ := trodAll_cons hA
  obtain ⟨v1, vs1, d1, ds1, p1, q1, rfl, rfl, rfl, h1, r1⟩ := trodAll_cons r0
  obtain ⟨v2, vs2, d2, ds2, p2, q2, rfl, rfl, rfl, h2, r2⟩ := trodAll_cons r1
  obtain ⟨rfl, rfl, rfl⟩ := trodAll_nil r2
  obtain rfl : args = #[v0, v1, v2] := by cases args; simp_all
  obtain ⟨rfl, rfl⟩ := trodVars_none hV
  obtain ⟨a0, rfl, rfl, rfl, w0⟩ := open_string Try.underlying9 (hval 0 9 v0 rfl rfl) h0
  obtain ⟨a1, rfl, rfl, rfl, w1⟩ := open_int Try.underlying22 (hval 1 22 v1 rfl rfl) h1
  obtain ⟨a2, rfl, rfl, rfl, w2⟩ := open_int Try.underlying23 (hval 2 23 v2 rfl rfl) h2
  clear hA0 hval0
  simp only [List.append_nil] at hW'
  refine (walk a0 a1 a2 w0 w1 w2 W).mono fun e W' ⟨he, bel⟩ => ?_
  subst he
  exact ⟨_, rfl, _, _, _, [], _, [], hW', trodAll_mk1 (shut_bool Try.underlying4 _), (trodAll_cons_mk (shut_string Try.underlying9 w0) (trodAll_cons_mk (shut_int Try.underlying22 w1) (trodAll_cons_mk (shut_int Try.underlying23 w2) trodAll_mk0))), rfl, bel.frame _, fun h => by cases h⟩

theorem over : Rows.crcBurstsRow.holds Try.pinned (OpenSpec.ofChange Rows.crcBurstsSpec) :=
  OpenClaim.holds_of_wide 3 Try.f3 rfl rfl rfl rfl rfl rfl rfl ⟨rfl, rfl, rfl, rfl, rfl⟩ rfl rfl rfl rfl rfl (by kernel_rfl) Try.func3 (by kernel_rfl)
    (of_decide_eq_true (by kernel_rfl)) (by unfold Func.isWrapper; first | (rw [if_pos (by decide +kernel)]; kernel_rfl) | (rw [if_neg (by decide +kernel)]; exact ⟨rfl, rfl⟩))
    (fun os started H enc _ => lifted os started H enc)

/-- ████ THE STATEMENT ████ -/
theorem proved : Rows.CrcBurstsSaid :=
  over
#print axioms proved
end Go.Proofs.Ytkaofakcahnagaa.crcBursts
