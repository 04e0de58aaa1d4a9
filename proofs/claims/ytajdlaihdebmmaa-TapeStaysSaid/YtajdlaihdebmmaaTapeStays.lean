/-
  Proved: for every input the law TapeStays returns true, and leaves its arguments as they were. No condition.
-/
import Derived.Test.YtajdlaihdebmmaaRows
import Derived.WalkKit
import Derived.ProofKit
import Derived.OpenShut
import Derived.ShutString
import Derived.Test.YtajdlaihdebmmaaTpTape
import Derived.Test.YtajdlaihdebmmaaTpAwake
namespace Go.Proofs.Ytajdlaihdebmmaa.tapeStays
open Go.ChangeShapes Go.WideShapes Go.ChangeAt Go.RowKit
open Go.ChangeMaps (open_string shut_string)
set_option linter.unusedVariables false      -- a walk need not use every 'w<i>' (that an integer argument fits its kind)

theorem own : ownKnob Try.prog.godebug = none := by kernel_rfl

open Go.Proofs.Ytajdlaihdebmmaa.Tp Go.Proofs.Ytajdlaihdebmmaa.Ov
set_option maxRecDepth 100000 in
set_option maxHeartbeats 1000000 in
theorem large (s : ByteArray) (a : Int) (w : World) (h : 3000 < s.size) (hm : s.size ≤ 9223372036854775807) :
    Calls Try.prog 7 #[.string s, .int .i64 a] w fun e w' => e = .returned (.bool true) ∧ Below w.heap.size w w' := by
  go_enter Try.func7, Try.ntmps7
  go_wp2_with fail
  refine (awake_any _).mono ?_
  rintro e w1 ⟨rfl, hb⟩
  have HB := Lib.hid hb; clear hb
  go_wp2_with fail
  refine (awake_any _).mono ?_
  rintro e w2 ⟨rfl, hb2⟩
  have HB2 := Lib.hid (Below.next HB.out hb2); clear hb2
  go_wp2_with fail
  go_ret
  exact ⟨rfl, HB2.out⟩
set_option maxRecDepth 100000 in
set_option maxHeartbeats 1000000 in
theorem good (s : ByteArray) (a : Int) (w : World) (hs : s.size ≤ 3000) (n : Nat) (t : List UInt8) (hc : cc a s.data.toList = (n, t, 0)) (hl : t.length < s.data.toList.length) (hn : n ≤ t.length) :
    Calls Try.prog 7 #[.string s, .int .i64 a] w fun e w' => e = .returned (.bool true) ∧ Below w.heap.size w w' := by
  have hsl : s.data.toList.length ≤ 3000 := by simpa using hs
  have HC := Lib.hid hc; clear hc
  go_enter Try.func7, Try.ntmps7
  go_wp2_with fail
  refine (awake_any _).mono ?_
  rintro e w1 ⟨rfl, hb⟩
  have HB1 := Lib.hid hb; clear hb
  go_wp2_with fail
  refine (new_any s _ (by omega)).mono ?_
  rintro e w2 ⟨b, rfl, hlo, ht, hb⟩
  have HT2 := Lib.hid ht; have HB2 := Lib.hid (Below.next HB1.out hb); clear ht hb
  have hlo2 : w.heap.size ≤ b := Nat.le_trans HB1.out.size hlo
  generalize hL : s.data.toList = L at *
  have HL := Lib.hid hL; clear hL
  go_wp2_with fail
  refine (left_any b L _ HT2.out).mono ?_
  rintro e w3 ⟨rfl, rfl⟩
  go_wp2_with fail
  refine (text_ok b L a _ HT2.out (by omega) HC.out hn).mono ?_
  rintro e w4 ⟨rfl, ht, hu⟩
  have HT4 := Lib.hid ht; have HB4 := Lib.hid (HB2.out.trans (hu.below hlo2 HB2.out.size)); clear ht hu
  have hd : (t.drop n).length ≤ t.length := by rw [List.length_drop]; omega
  generalize t.drop n = D at *
  generalize t.take n = T at *
  go_wp2_with fail
  refine (left_any b D _ HT4.out).mono ?_
  rintro e w5 ⟨rfl, rfl⟩
  have hlt : (D.length : Int) < (L.length : Int) := by omega
  go_wp2_with fail
  go_ret
  exact ⟨rfl, HB4.out⟩
/-- What Text answers, where it answers an error. -/
theorem text_err (b : Nat) (l : List UInt8) (most : Int) (k : Nat) (w : World) (h : IsT w b l) (hl : l.length ≤ 281474976710656) (hk : 0 < k)
    (hc : cc most l = (0, [], k) ∨ (k = 2 ∧ ∃ n t, cc most l = (n, t, 0) ∧ t.length < n)) :
    Calls Try.prog 16 #[.pointer (some ⟨b, 0, none⟩), .int .i64 most] w (LeftT b (.tuple #[.string ⟨#[]⟩, .int .i64 (k : Int)]) l w) := by
  rcases hc with hc | ⟨rfl, n, t, hc, hn⟩
  · exact text_no b l most w h hl hc hk
  · exact text_short b l most w h hl hc hn
def NumAt (l : List UInt8) (x k : Nat) : Prop := ∀ b w, IsT w b l → Calls Try.prog 14 #[.pointer (some ⟨b, 0, none⟩)] w fun e w' => e = .returned (.tuple #[.int .i64 (x : Int), .int .i64 (k : Int)]) ∧ Tur b w w'
theorem num_at (l : List UInt8) (hl : l.length ≤ 281474976710656) : ∃ x k, NumAt l x k := by
  rcases cn_cases l with ⟨n, t, h, _, _⟩ | ⟨k, h, hk, _⟩
  · exact ⟨n, 0, fun b w ht => (num_ok b l w ht hl h).mono fun e w' ⟨he, _, hu⟩ => ⟨he, hu⟩⟩
  · exact ⟨0, k, fun b w ht => (num_no b l w ht hl h hk).mono fun e w' ⟨he, _, hu⟩ => ⟨he, hu⟩⟩
set_option maxRecDepth 100000 in
set_option maxHeartbeats 1000000 in
theorem bad (s : ByteArray) (a : Int) (w : World) (hs : s.size ≤ 3000) (k : Nat) (hk : 0 < k) (hc : cc a s.data.toList = (0, [], k) ∨ (k = 2 ∧ ∃ n t, cc a s.data.toList = (n, t, 0) ∧ t.length < n)) :
    Calls Try.prog 7 #[.string s, .int .i64 a] w fun e w' => e = .returned (.bool true) ∧ Below w.heap.size w w' := by
  have hsl : s.data.toList.length ≤ 3000 := by simpa using hs
  obtain ⟨x, j, hnum⟩ := num_at s.data.toList (by omega)
  have HN := Lib.hid hnum; clear hnum
  have HC := Lib.hid hc; clear hc
  have hk0 : ((k : Int) == 0) = false := by rw [beq_eq_false_iff_ne]; omega
  go_enter Try.func7, Try.ntmps7
  go_wp2_with fail
  refine (awake_any _).mono ?_
  rintro e w1 ⟨rfl, hb⟩
  have HB1 := Lib.hid hb; clear hb
  go_wp2_with fail
  refine (new_any s _ (by omega)).mono ?_
  rintro e w2 ⟨b, rfl, hlo, ht, hb⟩
  have HT2 := Lib.hid ht; have HB2 := Lib.hid (Below.next HB1.out hb); clear ht hb
  have hlo2 : w.heap.size ≤ b := Nat.le_trans HB1.out.size hlo
  have hll : (s.data.toList.length : Int) = (s.size : Int) := by simp
  go_wp2_with fail
  refine (left_any b s.data.toList _ HT2.out).mono ?_
  rintro e w3 ⟨rfl, rfl⟩
  go_wp2_with fail
  refine (text_err b s.data.toList a k _ HT2.out (by omega) hk HC.out).mono ?_
  rintro e w4 ⟨rfl, ht, hu⟩
  have HT4 := Lib.hid ht; have HB4 := Lib.hid (HB2.out.trans (hu.below hlo2 HB2.out.size)); clear ht hu
  go_wp2_with fail
  refine (text_err b s.data.toList a k _ HT4.out (by omega) hk HC.out).mono ?_
  rintro e w5 ⟨rfl, ht, hu⟩
  have HT5 := Lib.hid ht; have HB5 := Lib.hid (HB4.out.trans (hu.below hlo2 HB4.out.size)); clear ht hu
  go_wp2_with fail
  refine (new_any s _ (by omega)).mono ?_
  rintro e w6 ⟨c, rfl, hlo6, ht, hb⟩
  have HT6 : Hid (IsT w6 b s.data.toList) := One.old HT5.out hb
  have HU6 := Lib.hid ht; have HB6 := Lib.hid (Below.next HB5.out hb)
  have hne : c ≠ b := by have := One.lt HT5.out; omega
  have hlo7 : w.heap.size ≤ c := Nat.le_trans HB5.out.size hlo6
  clear ht hb
  go_wp2_with fail
  refine (HN.out b _ HT6.out).mono ?_
  rintro e w7 ⟨rfl, hu⟩
  have HU7 : Hid (IsT w7 c s.data.toList) := One.tur HU6.out hu hne
  have HB7 := Lib.hid (HB6.out.trans (hu.below hlo2 HB6.out.size)); clear hu
  go_wp2_with fail
  refine (HN.out c _ HU7.out).mono ?_
  rintro e w8 ⟨rfl, hu⟩
  have HB8 := Lib.hid (HB7.out.trans (hu.below hlo7 HB7.out.size)); clear hu
  go_wp2_with fail
  go_ret
  exact ⟨rfl, HB8.out⟩
/-! ### STEP 1: THE WALK: the Go text returns true. 'Grown w w'': the world has at most new blocks (Derived/RowKit3.lean). Part the cases AHEAD of 'go_enter' where a test parts the walk; take each callee by a contract of your own. -/
theorem walk (a0 : ByteArray) (a1 : Int) (w0 : a0.size ≤ maxLen) (w1 : (Lit.int .i64 a1).wf = true) (w : World) :
    Calls Try.prog 7 #[.string a0, .int .i64 a1] w fun e w' => e = .returned (.bool true) ∧ Below w.heap.size w w' := by
  unfold maxLen at w0
  by_cases h : 3000 < a0.size
  · exact large a0 a1 w h (by omega)
  rcases cc_cases a1 a0.data.toList with ⟨n, t, hc, hl, hn, hm⟩ | ⟨k, hc, hk, hk'⟩
  · by_cases hn : n ≤ t.length
    · exact good a0 a1 w (by omega) n t hc hl hn
    · exact bad a0 a1 w (by omega) 2 (by omega) (Or.inr ⟨rfl, n, t, hc, by omega⟩)
  · exact bad a0 a1 w (by omega) k hk (Or.inl hc)

/-! ### THE ROW's STEP: WRITTEN OUT: LEAVE IT -/
set_option maxRecDepth 100000 in
theorem lifted (os : Os) (started : os.Started) (H : Type) (enc : TypeId × Value → H) :
    ReturnsInHanded {} Try.checked os 7 .any (Rows.tapeStaysSpec.pre6 enc Try.prog Try.f7 Rows.tapeStaysRow.domain false) (Rows.tapeStaysSpec.post enc Try.prog Try.f7 false true false false) := by
  refine returnsInHanded_of_change (C := Try.checked) own started (by kernel_rfl) Try.func7
    (ChangeSpec.witness6 (enc := enc) (C := Try.checked) false ⟨#[], #[.string ByteArray.empty, .int .i64 0], []⟩ 8 (by kernel_rfl) (by kernel_rfl) (by kernel_rfl) (by kernel_rfl)) ?_
  intro W base args ds gs before hval0 hW hcnd _
  have hval : ∀ (j : Nat) t v, Try.f7.params[j]? = some t → args[j]? = some v → Value.okWide Try.prog W .any base t v := hval0
  have hW' := hW
  obtain ⟨p, q, hA0, hV, rfl, hfz, hnd⟩ := hW
  have hA : DataW.TrodAll enc Try.prog W 0 (fun _ => true) true Try.f7.params.toList args.toList ds p := hA0
  rw [Try.params7] at hA hval
  obtain ⟨v0, vs0, d0, ds0, p0, q0, hargs, rfl, rfl, h0, r0⟩ := trodAll_cons hA
  obtain ⟨v1, vs1, d1, ds1, p1, q1, rfl, rfl, rfl, h1, r1⟩ := trodAll_cons r0
  obtain ⟨rfl, rfl, rfl⟩ := trodAll_nil r1
  obtain rfl : args = #[v0, v1] := by cases args; simp_all
  obtain ⟨rfl, rfl⟩ := trodVars_none hV
  obtain ⟨a0, rfl, rfl, rfl, w0⟩ := open_string Try.underlying9 (hval 0 9 v0 rfl rfl) h0
  obtain ⟨a1, rfl, rfl, rfl, w1⟩ := open_int Try.underlying3 (hval 1 3 v1 rfl rfl) h1
  clear hA0 hval0
  simp only [List.append_nil] at hW'
  refine (walk a0 a1 w0 w1 W).mono fun e W' ⟨he, bel⟩ => ?_
  subst he
  exact ⟨_, rfl, _, _, _, [], _, [], hW', trodAll_mk1 (shut_bool Try.underlying4 _), (trodAll_cons_mk (shut_string Try.underlying9 w0) (trodAll_cons_mk (shut_int Try.underlying3 w1) trodAll_mk0)), rfl, bel.frame _, fun h => by cases h⟩

theorem over : Rows.tapeStaysRow.holds Try.pinned (OpenSpec.ofChange Rows.tapeStaysSpec) :=
  OpenClaim.holds_of_wide 7 Try.f7 rfl rfl rfl rfl rfl rfl rfl ⟨rfl, rfl, rfl, rfl, rfl⟩ rfl rfl rfl rfl rfl (by kernel_rfl) Try.func7 (by kernel_rfl)
    (of_decide_eq_true (by kernel_rfl)) (by unfold Func.isWrapper; first | (rw [if_pos (by decide +kernel)]; kernel_rfl) | (rw [if_neg (by decide +kernel)]; exact ⟨rfl, rfl⟩))
    (fun os started H enc _ => lifted os started H enc)

/-- ████ THE STATEMENT ████ -/
theorem proved : Rows.TapeStaysSaid :=
  over
#print axioms proved
end Go.Proofs.Ytajdlaihdebmmaa.tapeStays
